/-
The small functions of package text and of its reference: signs by runes and by bytes; is a byte at a place; how long a character is. What is no good text, and where it begins: text.Good and its reference's Good by one function of the bytes. Names and numbers: text.Name, text.Number and their references by one reading of the bytes; the texts that every program must know.
-/
import Derived.Test.YthmpepnikmdjpaaGreatDoorProg
import Derived.Test.YthmpepnikmdjpaaGreatDoorShelf
import Derived.Test.YthmpepnikmdjpaaGreatDoorCVerDef
import Derived.WalkKit
import Derived.ProofKit
import Derived.Below
import Derived.Lib.Hide
import Derived.Deep.LoopGhost
import Derived.Lib.OthersKept
namespace Go.Proofs.YthmpepnikmdjpaaGreatDoor
open Go.RowKit
set_option linter.unusedSimpArgs false
set_option linter.unusedVariables false
namespace Txt
def ctl (r:Nat):Bool:=(decide (r < 32) && !decide (r = 9)) || decide (r = 127)
def wht (r:Nat):Bool:=decide (r = 32) || decide (r = 9)
def ltr (r:Nat):Bool:=decide (97 ≤ r) && decide (r ≤ 122)
def dgt (r:Nat):Bool:=decide (48 ≤ r) && decide (r ≤ 57)
def mrk (r:Nat):Bool:=decide (r = 43) || decide (r = 45) || decide (r = 46)
theorem ret_bool {a b:Bool} {w:World} (h:a = true ↔ b = true):Ending.returned (Value.bool a) = Ending.returned (.bool b) ∧ w = w:=⟨by rw [Bool.eq_iff_iff.2 h],rfl⟩
theorem control_any (r:Nat) (w:World):Calls Tryz.prog 293 #[.int .i32 r] w fun e w'=>e = .returned (.bool (ctl r)) ∧ w' = w:=by
 go_enter Tryz.func293,Tryz.ntmps293
 go_wp2_with fail
 all_goals
  go_ret
  refine ret_bool ?_
  simp [ctl]
  try omega
theorem white_any (r:Nat) (w:World):Calls Tryz.prog 198 #[.int .i32 r] w fun e w'=>e = .returned (.bool (wht r)) ∧ w' = w:=by
 go_enter Tryz.func198,Tryz.ntmps198
 go_wp2_with fail
 all_goals
  go_ret
  refine ret_bool ?_
  simp [wht]
  try omega
theorem letter_any (r:Nat) (w:World):Calls Tryz.prog 81 #[.int .i32 r] w fun e w'=>e = .returned (.bool (ltr r)) ∧ w' = w:=by
 go_enter Tryz.func81,Tryz.ntmps81
 go_wp2_with fail
 all_goals
  go_ret
  refine ret_bool ?_
  simp [ltr]
  try omega
theorem digit_any (r:Nat) (w:World):Calls Tryz.prog 82 #[.int .i32 r] w fun e w'=>e = .returned (.bool (dgt r)) ∧ w' = w:=by
 go_enter Tryz.func82,Tryz.ntmps82
 go_wp2_with fail
 all_goals
  go_ret
  refine ret_bool ?_
  simp [dgt]
  try omega
theorem mark_any (r:Nat) (w:World):Calls Tryz.prog 83 #[.int .i32 r] w fun e w'=>e = .returned (.bool (mrk r)) ∧ w' = w:=by
 go_enter Tryz.func83,Tryz.ntmps83
 go_wp2_with fail
 all_goals
  go_ret
  refine ret_bool ?_
  simp [mrk]
  try omega
theorem ydigit_any (r:Nat) (w:World):Calls Tryz.prog 91 #[.int .u8 r] w fun e w'=>e = .returned (.bool (dgt r)) ∧ w' = w:=by
 go_enter Tryz.func91,Tryz.ntmps91
 go_wp2_with fail
 all_goals
  go_ret
  refine ret_bool ?_
  simp [dgt]
  try omega
end Txt
end Go.Proofs.YthmpepnikmdjpaaGreatDoor
namespace Go.Proofs.YthmpepnikmdjpaaGreatDoor
open Go.RowKit
set_option linter.unusedSimpArgs false
set_option linter.unusedVariables false
namespace Txt
def goodN (s:ByteArray):Nat → Nat → Int
 | 0,_=>-1
 | f + 1,i=>if i < s.size then (if sz s i = 0 ∨ ctl (b s i) = true then (i:Int) else goodN s f (i + sz s i)) else -1
def good (s:ByteArray):Int:=goodN s s.size 0
theorem sz_le (s:ByteArray) (i:Nat) (h:i < s.size):i + sz s i ≤ s.size:=by
 by_cases hb:b s i < 128
 ·have:sz s i = 1:=by unfold sz; rw [if_pos hb]
  omega
 ·rcases dec_high s i h (by omega) with ⟨h0,_⟩ | ⟨_,h1,_⟩ <;> omega
theorem sz_one (s:ByteArray) (i:Nat) (hb:b s i < 128):sz s i = 1:=by unfold sz; rw [if_pos hb]
theorem decode_drop (s:ByteArray) (i:Nat) (h:i < s.size):Lib.decodeGo (s.extract i s.size) = Utf8.decode s i:=by
 have hsz:(s.extract i s.size).size = s.size - i:=by simp [ByteArray.size_extract]
 unfold Lib.decodeGo
 rw [if_neg (by omega)]
 rw [Lib.decode_at,Lib.decode_at,hsz]
 have e:∀ k,i + k < s.size → ((s.extract i s.size).get! k).toNat = (s.get! (i + k)).toNat:=fun k hk=>by
  rw [b_get _ _ hk,b_get _ _ (by omega),b_drop s i k (by omega)]
 have e0:=e 0 (by omega)
 rw [Nat.add_zero] at e0
 have o:∀ k,¬ i + k < s.size → ((s.extract i s.size).get! k).toNat = (s.get! (i + k)).toNat:=fun k hk=>by
  have h1:¬ k < (s.extract i s.size).size:=by omega
  show ((s.extract i s.size).data[k]!).toNat = (s.data[i + k]!).toNat
  rw [getElem!_neg _ _ (by exact h1),getElem!_neg _ _ (by exact hk)]
 have a:∀ k,((s.extract i s.size).get! k).toNat = (s.get! (i + k)).toNat:=fun k=>by
  by_cases hk:i + k < s.size
  ·exact e k hk
  ·exact o k hk
 rw [e0,a 1,a 2,a 3,Nat.sub_zero]
theorem tabs_below {w w':World} {B:Nat} (h:Lib.Utf8Tabs 3 4 w) (hb:Below B w w') (hB:3 < B ∧ 4 < B):Lib.Utf8Tabs 3 4 w':=by
 refine ⟨fun c hc=>?_,fun i hi=>?_⟩
 ·rw [hb.cell (p:=⟨3,c,none⟩) hB.1]; exact h.1 c hc
 ·obtain ⟨h1,h2⟩:=h.2 i hi
  exact ⟨by rw [hb.cell hB.2]; exact h1,by rw [hb.cell hB.2]; exact h2⟩
theorem lt_cell {w:World} {p:Addr} {v:Value} (h:w.cell? p = some v):p.block < w.heap.size:=by
 by_cases hc:p.block < w.heap.size
 ·exact hc
 ·exfalso
  unfold World.cell? at h
  rw [Array.getElem?_eq_none (by omega)] at h
  cases h
theorem tabs_lt {w:World} (h:Lib.Utf8Tabs 3 4 w):3 < w.heap.size ∧ 4 < w.heap.size:=by
 constructor
 ·have:=h.1 0 (by omega)
  exact lt_cell this
 ·exact lt_cell (h.2 0 (by omega)).1
theorem written_any (s:ByteArray) (w:World) (hT:Lib.Utf8Tabs 3 4 w):Calls Tryz.prog 294 #[.string s] w fun e w'=>e = .returned (.bool (decide (1 < (Lib.decodeGo s).2))) ∧ Below w.heap.size w w':=by
 have c:=Tryz.utf8_DecodeRuneInString s w hT
 obtain ⟨R,hR⟩:∃ R,(Lib.decodeGo s).1 = R:=⟨_,rfl⟩
 obtain ⟨K,hK⟩:∃ K,(Lib.decodeGo s).2 = K:=⟨_,rfl⟩
 rw [hR,hK] at c
 rw [hK]
 clear hR hK hT
 go_enter Tryz.func294,Tryz.ntmps294
 go_wp2_with fail
 refine c.mono ?_
 rintro e w' ⟨rfl,hb⟩
 go_wp2_with fail
 go_ret
 refine ⟨?_,hb⟩
 show Ending.returned (Value.bool (decide (1 < (K:Int)))) = _
 rw [Bool.eq_iff_iff.2 (show decide (1 < (K:Int)) = true ↔ decide (1 < K) = true by simp; omega)]
set_option maxRecDepth 100000 in
set_option maxHeartbeats 2000000 in
theorem good_any (s:ByteArray) (w:World) (hs:s.size ≤ 9223372036854775807) (hT:Lib.Utf8Tabs 3 4 w) :
  Calls Tryz.prog 264 #[.string s] w fun e w'=>e = .returned (.int .i64 (good s)) ∧ Below w.heap.size w w':=by
 obtain ⟨G,hG⟩:∃ G,good s = G:=⟨_,rfl⟩
 have HG:=Lib.hid hG
 rw [hG]
 clear hG
 go_enter Tryz.func264,Tryz.ntmps264
 go_wp2
 go_loopg [3] s.size (fun gf s3 wx=>∃ pos:Nat,wx.heap[w.heap.size]? = some (.stringIter s pos) ∧ Below w.heap.size w wx ∧ Hid (goodN s gf pos = G) ∧ s.size ≤ pos + gf ∧ pos ≤ s.size)
 case atStart=>exact ⟨0,World.iter_heap w s 0,(Below.refl _ _).alloc (Nat.le_refl _) _,HG.out,by omega,by omega⟩
 case round =>
  obtain ⟨pos,hit,hbw,HN,hfu,hps⟩:=hrel
  by_cases hlt:pos < s.size
  ·obtain ⟨g',rfl⟩:∃ g',gk = g' + 1:=⟨gk - 1,by omega⟩
   have hnx:∀ ty,(Instr.next (.pointer (some ⟨w.heap.size,0,none⟩)) true ty).run Tryz.prog wr = _:=fun ty=>Lib.run_next_any_at wr w.heap.size s pos ty hit hlt
   obtain ⟨W,hW⟩:∃ W,wr.iterAt w.heap.size s (pos + (Utf8.decode s pos).2) = W:=⟨_,rfl⟩
   have hit2:=Lib.iterAt_heap wr w.heap.size s pos (pos + (Utf8.decode s pos).2) hit
   have hbw2:=Lib.below_iterAt hbw (k:=w.heap.size) (Nat.le_refl _) s (pos + (Utf8.decode s pos).2)
   rw [hW] at hnx hit2 hbw2
   have hlt0:=tabs_lt hT
   have hT2:=tabs_below hT hbw2 hlt0
   have hN:=HN.out
   simp only [goodN,hlt,if_true] at hN
   have hle:=sz_le s pos hlt
   have CW:=written_any (s.extract pos s.size) W hT2
   rw [decode_drop s pos hlt] at CW
   clear hW hit hbw hT hlt0 hT2 HN
   by_cases hb:b s pos < 128
   ·have h1:=sz_one s pos hb
    rw [dec_low s pos hlt hb] at hnx hit2 CW
    rw [h1] at hN hle
    obtain ⟨c,hc⟩:∃ c,b s pos = c:=⟨_,rfl⟩
    rw [hc] at hnx hN hb
    clear hc CW h1
    go_wp2_with fail
    refine (control_any _ _).mono ?_
    rintro e w' ⟨rfl,rfl⟩
    cases hk:ctl c
    ·simp only [hk,Bool.false_eq_true,or_false] at hN
     rw [if_neg (by omega)] at hN
     have HN:=Lib.hid hN
     clear hN
     go_wp2_with fail
     go_roundg g'
     case measure=>omega
     case rel=>exact ⟨pos + 1,hit2,hbw2,HN,by omega,hle⟩
    ·rw [if_pos (Or.inr hk)] at hN
     subst hN
     go_wp2_with fail
     go_ret
     exact ⟨rfl,hbw2⟩
   ·rcases dec_high s pos hlt (by omega) with ⟨h0,hd⟩ | ⟨h0,h1,hd,hr⟩
    ·rw [hd] at hnx hit2 CW
     rw [if_pos (Or.inl h0)] at hN
     subst hN
     have hp:(pos:Int) ≤ (s.size:Int):=by omega
     rw [show decide (1 < ((65533,1):Nat × Nat).2) = false from rfl] at CW
     go_wp2_with fail
     refine (control_any 65533 _).mono ?_
     rintro e w' ⟨rfl,rfl⟩
     rw [show ctl 65533 = false by decide]
     go_wp2_with fail
     refine CW.mono ?_
     rintro e w8 ⟨rfl,b8⟩
     go_wp2_with fail
     go_ret
     exact ⟨rfl,hbw2.trans (b8.mono hbw2.size)⟩
    ·have hk:ctl (b s pos) = false:=by unfold ctl; simp; omega
     rw [if_neg (by rw [hk]; simp; omega)] at hN
     have HN:=Lib.hid hN
     obtain ⟨R,hR⟩:∃ R,(Utf8.decode s pos).1 = R:=⟨_,rfl⟩
     rw [hR] at hnx hr
     rw [hd] at hit2 CW
     have hp:(pos:Int) ≤ (s.size:Int):=by omega
     rw [show decide (1 < sz s pos) = true from decide_eq_true (by omega)] at CW
     clear hN hR
     go_wp2_with fail
     refine (control_any _ _).mono ?_
     rintro e w' ⟨rfl,rfl⟩
     rw [show ctl R = false by unfold ctl; simp; omega]
     by_cases hr5:R = 65533
     ·subst hr5
      go_wp2_with fail
      refine CW.mono ?_
      rintro e w8 ⟨rfl,b8⟩
      go_wp2_with fail
      go_roundg g'
      case measure=>omega
      case rel=>exact ⟨pos + sz s pos,(b8.block _ (Array.getElem?_eq_some_iff.1 hit2).1).trans hit2,hbw2.trans (b8.mono hbw2.size),HN,by omega,hle⟩
     ·have hr5':¬ ((R:Int) = 65533):=by omega
      go_wp2_with fail
      go_roundg g'
      case measure=>omega
      case rel=>exact ⟨pos + sz s pos,hit2,hbw2,HN,by omega,hle⟩
  ·have hne:∀ ty,(Instr.next (.pointer (some ⟨w.heap.size,0,none⟩)) true ty).run Tryz.prog wr = _:=fun ty=>Lib.run_next_end_at wr w.heap.size s pos ty hit hlt
   go_wp2_with fail
   go_ret
   have:=HN.out
   refine ⟨?_,hbw⟩
   rw [← this]
   cases gk <;> simp [goodN,hlt]
end Txt
end Go.Proofs.YthmpepnikmdjpaaGreatDoor
namespace Go.Proofs.YthmpepnikmdjpaaGreatDoor
open Go.RowKit
set_option linter.unusedSimpArgs false
set_option linter.unusedVariables false
namespace Txt
def okAt (s:ByteArray) (i:Nat):Bool:=ltr (b s i) || dgt (b s i) || (!decide (i = 0) && mrk (b s i))
def nameOK (s:ByteArray):Prop:=(2 ≤ s.size ∧ s.size ≤ 24) ∧ ∀ j,j < s.size → okAt s j = true
instance (s:ByteArray):Decidable (nameOK s):=inferInstanceAs (Decidable (_ ∧ _))
theorem okAt_high {s:ByteArray} {i:Nat} (h:128 ≤ b s i):okAt s i = false:=by
 unfold okAt ltr dgt mrk
 simp
 omega
theorem more {p:Nat → Bool} {i:Nat} (h:∀ j,j < i → p j = true) (hi:p i = true):∀ j,j < i + 1 → p j = true:=fun j hj=>by
 by_cases e:j = i
 ·subst e; exact hi
 ·exact h j (by omega)
set_option maxRecDepth 100000 in
set_option maxHeartbeats 2000000 in
theorem name_any (s:ByteArray) (w:World) (hs:s.size ≤ 9223372036854775807) :
  Calls Tryz.prog 38 #[.string s] w fun e w'=>e = .returned (.bool (decide (nameOK s))) ∧ Below w.heap.size w w':=by
 by_cases h2:s.size < 2
 ·have h2':(s.size:Int) < 2:=by omega
  rw [decide_eq_false (fun h=>by have:=h.1.1; omega)]
  go_enter Tryz.func38,Tryz.ntmps38
  go_wp2_with fail
  go_ret
  exact ⟨rfl,Below.refl _ _⟩
 have h2':¬ (s.size:Int) < 2:=by omega
 by_cases h24:24 < s.size
 ·have h24':24 < (s.size:Int):=by omega
  rw [decide_eq_false (fun h=>by have:=h.1.2; omega)]
  go_enter Tryz.func38,Tryz.ntmps38
  go_wp2_with fail
  go_ret
  exact ⟨rfl,Below.refl _ _⟩
 have h24':¬ 24 < (s.size:Int):=by omega
 obtain ⟨G,hG⟩:∃ G,decide (nameOK s) = G:=⟨_,rfl⟩
 have HG:=Lib.hid hG
 rw [hG]
 clear hG
 go_enter Tryz.func38,Tryz.ntmps38
 go_wp2
 go_loopg [3] s.size (fun gf s3 wx=>∃ pos:Nat,wx.heap[w.heap.size]? = some (.stringIter s pos) ∧ Below w.heap.size w wx ∧ Hid (∀ j,j < pos → okAt s j = true) ∧ s.size ≤ pos + gf ∧ pos ≤ s.size)
 case atStart=>exact ⟨0,World.iter_heap w s 0,(Below.refl _ _).alloc (Nat.le_refl _) _,fun j hj=>by omega,by omega,by omega⟩
 case round =>
  obtain ⟨pos,hit,hbw,HN,hfu,hps⟩:=hrel
  by_cases hlt:pos < s.size
  ·obtain ⟨g',rfl⟩:∃ g',gk = g' + 1:=⟨gk - 1,by omega⟩
   have hnx:∀ ty,(Instr.next (.pointer (some ⟨w.heap.size,0,none⟩)) true ty).run Tryz.prog wr = _:=fun ty=>Lib.run_next_any_at wr w.heap.size s pos ty hit hlt
   obtain ⟨W,hW⟩:∃ W,wr.iterAt w.heap.size s (pos + (Utf8.decode s pos).2) = W:=⟨_,rfl⟩
   have hit2:=Lib.iterAt_heap wr w.heap.size s pos (pos + (Utf8.decode s pos).2) hit
   have hbw2:=Lib.below_iterAt hbw (k:=w.heap.size) (Nat.le_refl _) s (pos + (Utf8.decode s pos).2)
   rw [hW] at hnx hit2 hbw2
   have hpz:(pos:Int) = 0 ∨ ¬ (pos:Int) = 0:=by omega
   clear hW hit hbw
   by_cases hb:b s pos < 128
   ·rw [dec_low s pos hlt hb] at hnx hit2
    have hok:okAt s pos = (ltr (b s pos) || dgt (b s pos) || (!decide (pos = 0) && mrk (b s pos))):=rfl
    obtain ⟨c,hc⟩:∃ c,b s pos = c:=⟨_,rfl⟩
    rw [hc] at hnx hb hok
    clear hc
    go_wp2_with fail
    refine (letter_any _ _).mono ?_
    rintro e w' ⟨rfl,rfl⟩
    cases hl:ltr c
    ·go_wp2_with fail
     refine (digit_any _ _).mono ?_
     rintro e w' ⟨rfl,rfl⟩
     cases hd:dgt c
     ·rcases hpz with hz | hz
      ·have hz0:pos = 0:=by omega
       subst hz0
       have hF:G = false:=by
        rw [← HG.out]
        exact decide_eq_false fun h=>by
         have:=h.2 0 hlt
         rw [hok,hl,hd] at this
         simp at this
       subst hF
       clear hok HG
       go_wp2_with fail
       go_ret
       exact ⟨rfl,hbw2⟩
      ·have hz0:¬ pos = 0:=by omega
       go_wp2_with fail
       refine (mark_any _ _).mono ?_
       rintro e w' ⟨rfl,rfl⟩
       cases hm:mrk c
       ·have hF:G = false:=by
         rw [← HG.out]
         exact decide_eq_false fun h=>by
          have:=h.2 pos hlt
          rw [hok,hl,hd,hm] at this
          simp at this
        subst hF
        clear hok HG
        go_wp2_with fail
        go_ret
        exact ⟨rfl,hbw2⟩
       ·have hT:okAt s pos = true:=by rw [hok,hm]; simp [hz0]
        have HM:=Lib.hid (more HN.out hT)
        clear hok HN hT
        go_wp2_with fail
        go_roundg g'
        case measure=>omega
        case rel=>exact ⟨pos + 1,hit2,hbw2,HM,by omega,by omega⟩
     ·have hT:okAt s pos = true:=by rw [hok,hd]; simp
      have HM:=Lib.hid (more HN.out hT)
      clear hok HN hT
      go_wp2_with fail
      go_roundg g'
      case measure=>omega
      case rel=>exact ⟨pos + 1,hit2,hbw2,HM,by omega,by omega⟩
    ·have hT:okAt s pos = true:=by rw [hok,hl]; simp
     have HM:=Lib.hid (more HN.out hT)
     clear hok HN hT
     go_wp2_with fail
     go_roundg g'
     case measure=>omega
     case rel=>exact ⟨pos + 1,hit2,hbw2,HM,by omega,by omega⟩
   ·have hr:128 ≤ (Utf8.decode s pos).1:=by
     rcases dec_high s pos hlt (by omega) with ⟨_,hd⟩ | ⟨_,_,_,hr⟩
     ·rw [hd]; decide
     ·exact hr
    have hF:G = false:=by
     rw [← HG.out]
     exact decide_eq_false fun h=>by
      have:=h.2 pos hlt
      rw [okAt_high (by omega)] at this
      simp at this
    subst hF
    obtain ⟨R,hR⟩:∃ R,(Utf8.decode s pos).1 = R:=⟨_,rfl⟩
    rw [hR] at hnx hr
    obtain ⟨N,hNN⟩:∃ N,(Utf8.decode s pos).2 = N:=⟨_,rfl⟩
    rw [hNN] at hit2
    clear hR HG hNN HN
    go_wp2_with fail
    refine (letter_any _ _).mono ?_
    rintro e w' ⟨rfl,rfl⟩
    rw [show ltr R = false by unfold ltr; simp; omega]
    go_wp2_with fail
    refine (digit_any _ _).mono ?_
    rintro e w' ⟨rfl,rfl⟩
    rw [show dgt R = false by unfold dgt; simp; omega]
    rcases hpz with hz | hz
    ·go_wp2_with fail
     go_ret
     exact ⟨rfl,hbw2⟩
    ·go_wp2_with fail
     refine (mark_any _ _).mono ?_
     rintro e w' ⟨rfl,rfl⟩
     rw [show mrk R = false by unfold mrk; simp; omega]
     go_wp2_with fail
     go_ret
     exact ⟨rfl,hbw2⟩
  ·have hne:∀ ty,(Instr.next (.pointer (some ⟨w.heap.size,0,none⟩)) true ty).run Tryz.prog wr = _:=fun ty=>Lib.run_next_end_at wr w.heap.size s pos ty hit hlt
   have hT:G = true:=by
    rw [← HG.out]
    exact decide_eq_true ⟨⟨by omega,by omega⟩,fun j hj=>HN.out j (by omega)⟩
   subst hT
   go_wp2_with fail
   go_ret
   exact ⟨rfl,hbw⟩
def valP (s:ByteArray):Nat → Nat
 | 0=>0
 | i + 1=>10 * valP s i + (b s i - 48)
def numOK (s:ByteArray):Prop:=((1 ≤ s.size ∧ s.size ≤ 9) ∧ ¬ (1 < s.size ∧ b s 0 = 48)) ∧ ∀ j,j < s.size → dgt (b s j) = true
instance (s:ByteArray):Decidable (numOK s):=inferInstanceAs (Decidable (_ ∧ _))
def numOf (s:ByteArray):Nat:=if numOK s then valP s s.size else 0
theorem valP_lt (s:ByteArray):∀ i,(∀ j,j < i → dgt (b s j) = true) → valP s i + 1 ≤ 10 ^ i
 | 0,_=>by simp [valP]
 | i + 1,h=>by
  have h1:=valP_lt s i fun j hj=>h j (by omega)
  have h2:=h i (by omega)
  have h3:b s i - 48 ≤ 9:=by unfold dgt at h2; simp at h2; omega
  show 10 * valP s i + (b s i - 48) + 1 ≤ _
  rw [Nat.pow_succ]; omega
theorem valP_le (s:ByteArray) (i:Nat) (hi:i ≤ 9) (h:∀ j,j < i → dgt (b s j) = true):valP s i ≤ 999999999:=by
 have h1:=valP_lt s i h
 have h2:10 ^ i ≤ 10 ^ 9:=Nat.pow_le_pow_right (by omega) hi
 have h3:(10:Nat) ^ 9 = 1000000000:=by decide
 omega
theorem num_no {s:ByteArray} {G:Nat × Bool} (h:(numOf s,decide (numOK s)) = G) (hn:¬ numOK s):G = (0,false):=by
 rw [← h,decide_eq_false hn]; unfold numOf; rw [if_neg hn]
theorem num_yes {s:ByteArray} {G:Nat × Bool} (h:(numOf s,decide (numOK s)) = G) (hn:numOK s):G = (valP s s.size,true):=by
 rw [← h,decide_eq_true hn]; unfold numOf; rw [if_pos hn]
set_option maxRecDepth 100000 in
set_option maxHeartbeats 2000000 in
theorem number_any (s:ByteArray) (w:World) (hs:s.size ≤ 9223372036854775807) :
  Calls Tryz.prog 161 #[.string s] w fun e w'=>e = .returned (.tuple #[.int .i64 (numOf s),.bool (decide (numOK s))]) ∧ Below w.heap.size w w':=by
 obtain ⟨G,hG⟩:∃ G,(numOf s,decide (numOK s)) = G:=⟨_,rfl⟩
 have HG:=Lib.hid hG
 obtain ⟨g1,g2⟩:=G
 obtain ⟨e1,e2⟩:=Prod.mk.inj hG
 rw [e1,e2]
 clear e1 e2 hG
 have hb:=b_eq s
 go_enter Tryz.func161,Tryz.ntmps161
 by_cases h0:s.size = 0
 ·obtain ⟨rfl,rfl⟩:=Prod.mk.inj (num_no HG.out fun h=>by have:=h.1.1.1; omega)
  have hne:s.toList.isEmpty = true:=by
   rw [Lib.toList_data]
   have:s.data.toList = []:=List.eq_nil_of_length_eq_zero (by rw [← Lib.size_eq]; exact h0)
   rw [this]; rfl
  have h1':¬ 1 < (s.size:Int):=by omega
  go_wp2_with fail
  go_ret2
  exact ⟨rfl,Below.refl _ _⟩
 have hne:s.toList.isEmpty = false:=by
  rw [Lib.toList_data]
  cases h:s.data.toList with
  | nil=>exact absurd (by rw [Lib.size_eq,h]; rfl) h0
  | cons _ _=>rfl
 have hp0:(0:Int) < (s.size:Int):=by omega
 have hb0:=hb 0 (by omega)
 have hbl:=b_lt s 0
 obtain ⟨c,hc⟩:∃ c,b s 0 = c:=⟨_,rfl⟩
 rw [hc] at hb0 hbl
 by_cases hn:1 < s.size ∧ c = 48
 ·obtain ⟨rfl,rfl⟩:=Prod.mk.inj (num_no HG.out fun h=>h.1.2 ⟨hn.1,by rw [hc]; exact hn.2⟩)
  obtain ⟨hn1,rfl⟩:=hn
  have hn1':1 < (s.size:Int):=by omega
  clear hb hc HG
  by_cases h9:9 < s.size
  ·have h9':9 < (s.size:Int):=by omega
   go_wp2_with fail
   go_ret2
   exact ⟨rfl,Below.refl _ _⟩
  ·have h9':¬ 9 < (s.size:Int):=by omega
   go_wp2_with fail
   go_ret2
   exact ⟨rfl,Below.refl _ _⟩
 ·have hcase:¬ (1 < (s.size:Int)) ∨ (1 < (s.size:Int) ∧ ¬ ((c:Int) = 48) ∧ ((c:Int) == 48) = false):=by
   by_cases h1:1 < s.size
   ·exact .inr ⟨by omega,by omega,by simp; omega⟩
   ·exact .inl (by omega)
  by_cases h9:9 < s.size
  ·have h9':9 < (s.size:Int):=by omega
   obtain ⟨rfl,rfl⟩:=Prod.mk.inj (num_no HG.out fun h=>by have:=h.1.1.2; omega)
   clear hb hc HG hn
   rcases hcase with h1 | ⟨h1,h2,h3⟩
   ·omega
   ·go_wp2_with fail
    go_ret2
    exact ⟨rfl,Below.refl _ _⟩
  ·have h9':¬ 9 < (s.size:Int):=by omega
   have HYES:=Lib.hid (show (∀ j,j < s.size → dgt (b s j) = true) → numOK s from fun h=>⟨⟨⟨by omega,by omega⟩,by rw [hc]; exact hn⟩,h⟩)
   clear hb hc hn
   rcases hcase with h1 | ⟨h1,h2,h3⟩
   all_goals
    go_wp2_with fail
    clear hb0 hbl
    go_loopg [5] s.size (fun gf s5 wx=>∃ pos:Nat,s5 = .int .i64 (valP s pos) ∧ wx.heap[w.heap.size]? = some (.stringIter s pos) ∧ Below w.heap.size w wx ∧ Hid (∀ j,j < pos → dgt (b s j) = true) ∧ s.size ≤ pos + gf ∧ pos ≤ s.size)
    case atStart=>exact ⟨0,rfl,World.iter_heap w s 0,(Below.refl _ _).alloc (Nat.le_refl _) _,fun j hj=>by omega,by omega,by omega⟩
    case round =>
     obtain ⟨pos,rfl,hit,hbw,HN,hfu,hps⟩:=hrel
     by_cases hlt:pos < s.size
     ·obtain ⟨g',rfl⟩:∃ g',gk = g' + 1:=⟨gk - 1,by omega⟩
      have hnx:∀ ty,(Instr.next (.pointer (some ⟨w.heap.size,0,none⟩)) true ty).run Tryz.prog wr = _:=fun ty=>Lib.run_next_any_at wr w.heap.size s pos ty hit hlt
      obtain ⟨W,hW⟩:∃ W,wr.iterAt w.heap.size s (pos + (Utf8.decode s pos).2) = W:=⟨_,rfl⟩
      have hit2:=Lib.iterAt_heap wr w.heap.size s pos (pos + (Utf8.decode s pos).2) hit
      have hbw2:=Lib.below_iterAt hbw (k:=w.heap.size) (Nat.le_refl _) s (pos + (Utf8.decode s pos).2)
      rw [hW] at hnx hit2 hbw2
      clear hW hit hbw
      have hv:=valP_le s pos (by omega) HN.out
      have hvs:valP s (pos + 1) = 10 * valP s pos + (b s pos - 48):=rfl
      obtain ⟨v,hvv⟩:∃ v,valP s pos = v:=⟨_,rfl⟩
      rw [hvv] at hv hvs ⊢
      clear hvv
      by_cases hb:dgt (b s pos) = true
      ·have hd:48 ≤ b s pos ∧ b s pos ≤ 57:=by unfold dgt at hb; simp at hb; omega
       rw [dec_low s pos hlt (by omega)] at hnx hit2
       have HM:=Lib.hid (more HN.out hb)
       obtain ⟨c,hc⟩:∃ c,b s pos = c:=⟨_,rfl⟩
       rw [hc] at hnx hd hvs hb
       have hd1:48 ≤ (c:Int):=by omega
       have hd2:(c:Int) ≤ 57:=by omega
       have hv1:(v:Int) ≤ 999999999:=by omega
       clear hc HN
       go_wp2_with fail
       refine (digit_any _ _).mono ?_
       rintro e w' ⟨rfl,rfl⟩
       rw [hb]
       clear hb
       go_wp2_with fail
       go_roundg g'
       case measure=>omega
       case rel=>exact ⟨pos + 1,by rw [hvs]; go_num,hit2,hbw2,HM,by omega,by omega⟩
      ·obtain ⟨rfl,rfl⟩:=Prod.mk.inj (num_no HG.out fun h=>hb (h.2 pos hlt))
       have hr:dgt (Utf8.decode s pos).1 = false:=by
        by_cases hl:b s pos < 128
        ·rw [dec_low s pos hlt hl]; exact Bool.eq_false_iff.2 hb
        ·rcases dec_high s pos hlt (by omega) with ⟨_,hd⟩ | ⟨_,_,_,hr⟩
         ·rw [hd]; decide
         ·unfold dgt; simp; omega
       obtain ⟨R,hR⟩:∃ R,(Utf8.decode s pos).1 = R:=⟨_,rfl⟩
       rw [hR] at hnx hr
       obtain ⟨N,hNN⟩:∃ N,(Utf8.decode s pos).2 = N:=⟨_,rfl⟩
       rw [hNN] at hit2
       clear hR HG hNN HN hb hvs
       go_wp2_with fail
       refine (digit_any _ _).mono ?_
       rintro e w' ⟨rfl,rfl⟩
       rw [hr]
       clear hr
       go_wp2_with fail
       go_ret2
       exact ⟨rfl,hbw2⟩
     ·have hne:∀ ty,(Instr.next (.pointer (some ⟨w.heap.size,0,none⟩)) true ty).run Tryz.prog wr = _:=fun ty=>Lib.run_next_end_at wr w.heap.size s pos ty hit hlt
      have hpe:pos = s.size:=by omega
      subst hpe
      obtain ⟨rfl,rfl⟩:=Prod.mk.inj (num_yes HG.out (HYES.out HN.out))
      clear HG HYES HN
      go_wp2_with fail
      go_ret2
      exact ⟨rfl,hbw⟩
end Txt
end Go.Proofs.YthmpepnikmdjpaaGreatDoor

/-
The small functions of package text and of its reference: signs by runes and by bytes; is a byte at a place; how long a character is. What is no good text, and where it begins: text.Good and its reference's Good by one function of the bytes. Names and numbers: text.Name, text.Number and their references by one reading of the bytes; the texts that every program must know. Parse.
-/
import Derived.Test.YtmhpjjjjgakpiaaGreatDoorProg
import Derived.Test.YtmhpjjjjgakpiaaGreatDoorShelf
import Derived.Test.YtmhpjjjjgakpiaaGreatDoorDTextUtf
import Derived.WalkKit
import Derived.ProofKit
import Derived.Below
import Derived.Lib.Hide
import Derived.Deep.LoopGhost
import Derived.Lib.OthersKept
import Derived.Test.YtmhpjjjjgakpiaaGreatDoorDRelRead
namespace Go.Proofs.YtmhpjjjjgakpiaaGreatDoor
open Go.RowKit
set_option linter.unusedSimpArgs false
set_option linter.unusedVariables false
namespace Txt
def ltr (r:Nat):Bool:=decide (97 ≤ r) && decide (r ≤ 122)
def dgt (r:Nat):Bool:=decide (48 ≤ r) && decide (r ≤ 57)
def mrk (r:Nat):Bool:=decide (r = 43) || decide (r = 45) || decide (r = 46)
theorem ret_bool {a b:Bool} {w:World} (h:a = true ↔ b = true):Ending.returned (Value.bool a) = Ending.returned (.bool b) ∧ w = w:=⟨by rw [Bool.eq_iff_iff.2 h],rfl⟩
theorem letter_any (r:Nat) (w:World):Calls Tryz.prog 115 #[.int .i32 r] w fun e w'=>e = .returned (.bool (ltr r)) ∧ w' = w:=by
 go_enter Tryz.func115,Tryz.ntmps115
 go_wp2_with fail
 all_goals
  go_ret
  refine ret_bool ?_
  simp [ltr]
  try omega
theorem digit_any (r:Nat) (w:World):Calls Tryz.prog 116 #[.int .i32 r] w fun e w'=>e = .returned (.bool (dgt r)) ∧ w' = w:=by
 go_enter Tryz.func116,Tryz.ntmps116
 go_wp2_with fail
 all_goals
  go_ret
  refine ret_bool ?_
  simp [dgt]
  try omega
theorem mark_any (r:Nat) (w:World):Calls Tryz.prog 117 #[.int .i32 r] w fun e w'=>e = .returned (.bool (mrk r)) ∧ w' = w:=by
 go_enter Tryz.func117,Tryz.ntmps117
 go_wp2_with fail
 all_goals
  go_ret
  refine ret_bool ?_
  simp [mrk]
  try omega
theorem ydigit_any (r:Nat) (w:World):Calls Tryz.prog 83 #[.int .u8 r] w fun e w'=>e = .returned (.bool (dgt r)) ∧ w' = w:=by
 go_enter Tryz.func83,Tryz.ntmps83
 go_wp2_with fail
 all_goals
  go_ret
  refine ret_bool ?_
  simp [dgt]
  try omega
theorem ysmall_any (r:Nat) (w:World):Calls Tryz.prog 82 #[.int .u8 r] w fun e w'=>e = .returned (.bool (ltr r)) ∧ w' = w:=by
 go_enter Tryz.func82,Tryz.ntmps82
 go_wp2_with fail
 all_goals
  go_ret
  refine ret_bool ?_
  simp [ltr]
  try omega
end Txt
end Go.Proofs.YtmhpjjjjgakpiaaGreatDoor
namespace Go.Proofs.YtmhpjjjjgakpiaaGreatDoor
open Go.RowKit
set_option linter.unusedSimpArgs false
set_option linter.unusedVariables false
namespace Txt
theorem lt_cell {w:World} {p:Addr} {v:Value} (h:w.cell? p = some v):p.block < w.heap.size:=by
 by_cases hc:p.block < w.heap.size
 ·exact hc
 ·exfalso
  unfold World.cell? at h
  rw [Array.getElem?_eq_none (by omega)] at h
  cases h
end Txt
end Go.Proofs.YtmhpjjjjgakpiaaGreatDoor
namespace Go.Proofs.YtmhpjjjjgakpiaaGreatDoor
open Go.RowKit
set_option linter.unusedSimpArgs false
set_option linter.unusedVariables false
namespace Txt
def okAt (s:ByteArray) (i:Nat):Bool:=ltr (b s i) || dgt (b s i) || (!decide (i = 0) && mrk (b s i))
def nameOK (s:ByteArray):Prop:=(2 ≤ s.size ∧ s.size ≤ 24) ∧ ∀ j,j < s.size → okAt s j = true
instance (s:ByteArray):Decidable (nameOK s):=inferInstanceAs (Decidable (_ ∧ _))
theorem okAt_high {s:ByteArray} {i:Nat} (h:128 ≤ b s i):okAt s i = false:=by
 unfold okAt ltr dgt mrk
 simp
 omega
theorem more {p:Nat → Bool} {i:Nat} (h:∀ j,j < i → p j = true) (hi:p i = true):∀ j,j < i + 1 → p j = true:=fun j hj=>by
 by_cases e:j = i
 ·subst e; exact hi
 ·exact h j (by omega)
set_option maxRecDepth 100000 in
set_option maxHeartbeats 2000000 in
theorem name_any (s:ByteArray) (w:World) (hs:s.size ≤ 9223372036854775807) :
  Calls Tryz.prog 84 #[.string s] w fun e w'=>e = .returned (.bool (decide (nameOK s))) ∧ Below w.heap.size w w':=by
 by_cases h2:s.size < 2
 ·have h2':(s.size:Int) < 2:=by omega
  rw [decide_eq_false (fun h=>by have:=h.1.1; omega)]
  go_enter Tryz.func84,Tryz.ntmps84
  go_wp2_with fail
  go_ret
  exact ⟨rfl,Below.refl _ _⟩
 have h2':¬ (s.size:Int) < 2:=by omega
 by_cases h24:24 < s.size
 ·have h24':24 < (s.size:Int):=by omega
  rw [decide_eq_false (fun h=>by have:=h.1.2; omega)]
  go_enter Tryz.func84,Tryz.ntmps84
  go_wp2_with fail
  go_ret
  exact ⟨rfl,Below.refl _ _⟩
 have h24':¬ 24 < (s.size:Int):=by omega
 obtain ⟨G,hG⟩:∃ G,decide (nameOK s) = G:=⟨_,rfl⟩
 have HG:=Lib.hid hG
 rw [hG]
 clear hG
 go_enter Tryz.func84,Tryz.ntmps84
 go_wp2
 go_loopg [3] s.size (fun gf s3 wx=>∃ pos:Nat,wx.heap[w.heap.size]? = some (.stringIter s pos) ∧ Below w.heap.size w wx ∧ Hid (∀ j,j < pos → okAt s j = true) ∧ s.size ≤ pos + gf ∧ pos ≤ s.size)
 case atStart=>exact ⟨0,World.iter_heap w s 0,(Below.refl _ _).alloc (Nat.le_refl _) _,fun j hj=>by omega,by omega,by omega⟩
 case round =>
  obtain ⟨pos,hit,hbw,HN,hfu,hps⟩:=hrel
  by_cases hlt:pos < s.size
  ·obtain ⟨g',rfl⟩:∃ g',gk = g' + 1:=⟨gk - 1,by omega⟩
   have hnx:∀ ty,(Instr.next (.pointer (some ⟨w.heap.size,0,none⟩)) true ty).run Tryz.prog wr = _:=fun ty=>Lib.run_next_any_at wr w.heap.size s pos ty hit hlt
   obtain ⟨W,hW⟩:∃ W,wr.iterAt w.heap.size s (pos + (Utf8.decode s pos).2) = W:=⟨_,rfl⟩
   have hit2:=Lib.iterAt_heap wr w.heap.size s pos (pos + (Utf8.decode s pos).2) hit
   have hbw2:=Lib.below_iterAt hbw (k:=w.heap.size) (Nat.le_refl _) s (pos + (Utf8.decode s pos).2)
   rw [hW] at hnx hit2 hbw2
   have hpz:(pos:Int) = 0 ∨ ¬ (pos:Int) = 0:=by omega
   clear hW hit hbw
   by_cases hb:b s pos < 128
   ·rw [dec_low s pos hlt hb] at hnx hit2
    have hok:okAt s pos = (ltr (b s pos) || dgt (b s pos) || (!decide (pos = 0) && mrk (b s pos))):=rfl
    obtain ⟨c,hc⟩:∃ c,b s pos = c:=⟨_,rfl⟩
    rw [hc] at hnx hb hok
    clear hc
    go_wp2_with fail
    refine (letter_any _ _).mono ?_
    rintro e w' ⟨rfl,rfl⟩
    cases hl:ltr c
    ·go_wp2_with fail
     refine (digit_any _ _).mono ?_
     rintro e w' ⟨rfl,rfl⟩
     cases hd:dgt c
     ·rcases hpz with hz | hz
      ·have hz0:pos = 0:=by omega
       subst hz0
       have hF:G = false:=by
        rw [← HG.out]
        exact decide_eq_false fun h=>by
         have:=h.2 0 hlt
         rw [hok,hl,hd] at this
         simp at this
       subst hF
       clear hok HG
       go_wp2_with fail
       go_ret
       exact ⟨rfl,hbw2⟩
      ·have hz0:¬ pos = 0:=by omega
       go_wp2_with fail
       refine (mark_any _ _).mono ?_
       rintro e w' ⟨rfl,rfl⟩
       cases hm:mrk c
       ·have hF:G = false:=by
         rw [← HG.out]
         exact decide_eq_false fun h=>by
          have:=h.2 pos hlt
          rw [hok,hl,hd,hm] at this
          simp at this
        subst hF
        clear hok HG
        go_wp2_with fail
        go_ret
        exact ⟨rfl,hbw2⟩
       ·have hT:okAt s pos = true:=by rw [hok,hm]; simp [hz0]
        have HM:=Lib.hid (more HN.out hT)
        clear hok HN hT
        go_wp2_with fail
        go_roundg g'
        case measure=>omega
        case rel=>exact ⟨pos + 1,hit2,hbw2,HM,by omega,by omega⟩
     ·have hT:okAt s pos = true:=by rw [hok,hd]; simp
      have HM:=Lib.hid (more HN.out hT)
      clear hok HN hT
      go_wp2_with fail
      go_roundg g'
      case measure=>omega
      case rel=>exact ⟨pos + 1,hit2,hbw2,HM,by omega,by omega⟩
    ·have hT:okAt s pos = true:=by rw [hok,hl]; simp
     have HM:=Lib.hid (more HN.out hT)
     clear hok HN hT
     go_wp2_with fail
     go_roundg g'
     case measure=>omega
     case rel=>exact ⟨pos + 1,hit2,hbw2,HM,by omega,by omega⟩
   ·have hr:128 ≤ (Utf8.decode s pos).1:=by
     rcases dec_high s pos hlt (by omega) with ⟨_,hd⟩ | ⟨_,_,_,hr⟩
     ·rw [hd]; decide
     ·exact hr
    have hF:G = false:=by
     rw [← HG.out]
     exact decide_eq_false fun h=>by
      have:=h.2 pos hlt
      rw [okAt_high (by omega)] at this
      simp at this
    subst hF
    obtain ⟨R,hR⟩:∃ R,(Utf8.decode s pos).1 = R:=⟨_,rfl⟩
    rw [hR] at hnx hr
    obtain ⟨N,hNN⟩:∃ N,(Utf8.decode s pos).2 = N:=⟨_,rfl⟩
    rw [hNN] at hit2
    clear hR HG hNN HN
    go_wp2_with fail
    refine (letter_any _ _).mono ?_
    rintro e w' ⟨rfl,rfl⟩
    rw [show ltr R = false by unfold ltr; simp; omega]
    go_wp2_with fail
    refine (digit_any _ _).mono ?_
    rintro e w' ⟨rfl,rfl⟩
    rw [show dgt R = false by unfold dgt; simp; omega]
    rcases hpz with hz | hz
    ·go_wp2_with fail
     go_ret
     exact ⟨rfl,hbw2⟩
    ·go_wp2_with fail
     refine (mark_any _ _).mono ?_
     rintro e w' ⟨rfl,rfl⟩
     rw [show mrk R = false by unfold mrk; simp; omega]
     go_wp2_with fail
     go_ret
     exact ⟨rfl,hbw2⟩
  ·have hne:∀ ty,(Instr.next (.pointer (some ⟨w.heap.size,0,none⟩)) true ty).run Tryz.prog wr = _:=fun ty=>Lib.run_next_end_at wr w.heap.size s pos ty hit hlt
   have hT:G = true:=by
    rw [← HG.out]
    exact decide_eq_true ⟨⟨by omega,by omega⟩,fun j hj=>HN.out j (by omega)⟩
   subst hT
   go_wp2_with fail
   go_ret
   exact ⟨rfl,hbw⟩
set_option maxRecDepth 100000 in
set_option maxHeartbeats 2000000 in
theorem yname_any (s:ByteArray) (w:World) (hs:s.size ≤ 9223372036854775807) :
  Calls Tryz.prog 52 #[.string s] w fun e w'=>e = .returned (.bool (decide (nameOK s))) ∧ w' = w:=by
 obtain ⟨G,hG⟩:∃ G,decide (nameOK s) = G:=⟨_,rfl⟩
 have HG:=Lib.hid hG
 rw [hG]
 clear hG
 go_enter Tryz.func52,Tryz.ntmps52
 go_wp2
 go_loopg [7] s.size (fun gf s7 wx=>∃ pos:Nat,s7 = .int .i64 pos ∧ wx = w ∧ Hid (∀ j,j < pos → okAt s j = true) ∧ s.size ≤ pos + gf ∧ pos ≤ s.size)
 case atStart=>exact ⟨0,rfl,rfl,fun j hj=>by omega,by omega,by omega⟩
 case round =>
  obtain ⟨pos,rfl,rfl,HN,hfu,hps⟩:=hrel
  by_cases hlt:pos < s.size
  ·obtain ⟨g',rfl⟩:∃ g',gk = g' + 1:=⟨gk - 1,by omega⟩
   have hpz:(pos:Int) = 0 ∨ ¬ (pos:Int) = 0:=by omega
   have hlt':(pos:Int) < (s.size:Int):=by omega
   have hok:okAt s pos = (ltr (b s pos) || dgt (b s pos) || (!decide (pos = 0) && mrk (b s pos))):=rfl
   have hbc:=b_eq s pos hlt
   have hbl:=b_lt s pos
   obtain ⟨c,hc⟩:∃ c,b s pos = c:=⟨_,rfl⟩
   rw [hc] at hbc hok hbl
   clear hc
   go_wp2_with fail
   refine (ysmall_any _ _).mono ?_
   rintro e w' ⟨rfl,rfl⟩
   cases hl:ltr c
   ·go_wp2_with fail
    refine (ydigit_any _ _).mono ?_
    rintro e w' ⟨rfl,rfl⟩
    cases hd:dgt c
    ·rcases hpz with hz | hz
     ·have hz0:pos = 0:=by omega
      subst hz0
      have hF:G = false:=by
       rw [← HG.out]
       exact decide_eq_false fun h=>by
        have:=h.2 0 hlt
        rw [hok,hl,hd] at this
        simp at this
      subst hF
      clear hok HG
      go_wp2_with fail
      go_ret
      exact ⟨rfl,rfl⟩
     ·have hz0:¬ pos = 0:=by omega
      by_cases hm:mrk c = true
      ·have hT:okAt s pos = true:=by rw [hok,hm]; simp [hz0]
       have HM:=Lib.hid (more HN.out hT)
       have hm3:c = 43 ∨ c = 45 ∨ c = 46:=by unfold mrk at hm; simp at hm; omega
       clear hok HN hT hm
       rcases hm3 with rfl | rfl | rfl
       all_goals
        go_wp2_with fail
        go_roundg g'
        case measure=>omega
        case rel=>exact ⟨pos + 1,by go_num,rfl,HM,by omega,by omega⟩
      ·have hF:G = false:=by
        rw [← HG.out]
        exact decide_eq_false fun h=>by
         have:=h.2 pos hlt
         rw [hok,hl,hd,Bool.eq_false_iff.2 hm] at this
         simp at this
       subst hF
       have hm1:¬ (c:Int) = 43:=fun h=>hm (by unfold mrk; simp; omega)
       have hm2:¬ (c:Int) = 45:=fun h=>hm (by unfold mrk; simp; omega)
       have hm3:¬ (c:Int) = 46:=fun h=>hm (by unfold mrk; simp; omega)
       have q1:((c:Int) != 43) = true:=by simp; omega
       have q2:((c:Int) != 45) = true:=by simp; omega
       have q3:((c:Int) != 46) = true:=by simp; omega
       clear hok HG hm
       go_wp2_with fail
       go_ret
       exact ⟨rfl,rfl⟩
    ·have hT:okAt s pos = true:=by rw [hok,hd]; simp
     have HM:=Lib.hid (more HN.out hT)
     clear hok HN hT
     go_wp2_with fail
     go_roundg g'
     case measure=>omega
     case rel=>exact ⟨pos + 1,by go_num,rfl,HM,by omega,by omega⟩
   ·have hT:okAt s pos = true:=by rw [hok,hl]; simp
    have HM:=Lib.hid (more HN.out hT)
    clear hok HN hT
    go_wp2_with fail
    go_roundg g'
    case measure=>omega
    case rel=>exact ⟨pos + 1,by go_num,rfl,HM,by omega,by omega⟩
  ·have hge:(s.size:Int) ≤ (pos:Int):=by omega
   have hall:∀ j,j < s.size → okAt s j = true:=fun j hj=>HN.out j (by omega)
   by_cases h2:2 ≤ s.size
   ·by_cases h24:s.size ≤ 24
    ·have hT:G = true:=by
      rw [← HG.out]
      exact decide_eq_true ⟨⟨h2,h24⟩,hall⟩
     subst hT
     have h2':2 ≤ (s.size:Int):=by omega
     have h24':(s.size:Int) ≤ 24:=by omega
     clear HN hall
     go_wp2_with fail
     go_ret
     exact ⟨rfl,rfl⟩
    ·have hF:G = false:=by
      rw [← HG.out]
      exact decide_eq_false fun h=>h24 h.1.2
     subst hF
     have h2':2 ≤ (s.size:Int):=by omega
     have h24':¬ (s.size:Int) ≤ 24:=by omega
     clear HN hall
     go_wp2_with fail
     go_ret
     exact ⟨rfl,rfl⟩
   ·have hF:G = false:=by
     rw [← HG.out]
     exact decide_eq_false fun h=>h2 h.1.1
    subst hF
    have h2':¬ 2 ≤ (s.size:Int):=by omega
    clear HN hall
    go_wp2_with fail
    go_ret
    exact ⟨rfl,rfl⟩
def numOK (s:ByteArray):Prop:=((1 ≤ s.size ∧ s.size ≤ 9) ∧ ¬ (1 < s.size ∧ b s 0 = 48)) ∧ ∀ j,j < s.size → dgt (b s j) = true
instance (s:ByteArray):Decidable (numOK s):=inferInstanceAs (Decidable (_ ∧ _))
end Txt
end Go.Proofs.YtmhpjjjjgakpiaaGreatDoor
namespace Go.Proofs.YtmhpjjjjgakpiaaGreatDoor
open Go.RowKit
set_option linter.unusedSimpArgs false
set_option linter.unusedVariables false
namespace Ver
theorem results_tmp4 {fn:Func} {t u v x:Tmp} (h:fn.results = #[.tmp t,.tmp u,.tmp v,.tmp x]) (tmps:Array Value) (P:Program) (w:World) :
  (results fn tmps).run P w = .ok (.tuple #[tmps.getD t undef,tmps.getD u undef,tmps.getD v undef,tmps.getD x undef]) w:=by
 simp [results,h,go_sem]
def toldV:Option (Bs × Bs × Bs) → Value
 | none=>.tuple #[.string ⟨#[]⟩,.string ⟨#[]⟩,.string ⟨#[]⟩,.int .i64 3]
 | some p=>.tuple #[.string (S p.1),.string (S p.2.1),.string (S p.2.2),.int .i64 0]
theorem parse_size {l:Bs} (h:¬ (1 ≤ l.length ∧ l.length ≤ 48)):parse l = none:=by unfold parse; rw [if_neg h]
theorem parse_ep {l:Bs} (h:(epF l).2.2 = false):parse l = none:=by
 unfold parse
 rw [ep_is,h]
 split <;> rfl
theorem parse_rv {l:Bs} (h0:(epF l).2.2 = true) (h:(rvF (epF l).2.1).2.2 = false):parse l = none:=by
 unfold parse
 rw [ep_is,h0,if_pos rfl]
 split
 ·simp only
  rw [rvF_is,h]
  rfl
 ·rfl
theorem parse_up {l:Bs} (h1:1 ≤ l.length ∧ l.length ≤ 48) (h0:(epF l).2.2 = true) (h:(rvF (epF l).2.1).2.2 = true) :
  parse l = if upOK (rvF (epF l).2.1).1 = true then some ((epF l).1,(rvF (epF l).2.1).1,(rvF (epF l).2.1).2.1) else none:=by
 unfold parse
 rw [ep_is,h0,if_pos rfl,if_pos h1]
 simp only
 rw [rvF_is,h,if_pos rfl]
theorem epF_len (l:Bs):(epF l).2.1.length ≤ l.length:=by
 unfold epF
 cases hc:cut1 58 l with
 | none=>exact Nat.le_refl _
 | some p =>
  have:=congrArg List.length (cut1_parts _ _ p.1 p.2 hc)
  rw [List.length_append,List.length_cons] at this
  show p.2.length ≤ _
  omega
theorem rvF_len (l:Bs):(rvF l).1.length ≤ l.length:=by
 unfold rvF
 cases hc:cutZ 45 l with
 | none=>exact Nat.le_refl _
 | some p =>
  have:=congrArg List.length (cutZ_parts _ _ p.1 p.2 hc)
  rw [List.length_append,List.length_cons] at this
  show p.1.length ≤ _
  omega
set_option maxRecDepth 100000 in
set_option maxHeartbeats 1000000 in
theorem parse_gb (s:ByteArray) (w:World) (hs:s.size ≤ 4611686018427387904) (hm:MaxLen w) :
  Calls Tryz.prog 118 #[.string s] w fun e w'=>e = .returned (toldV (parse (li s))) ∧ Gb w.heap.size w w':=by
 by_cases h0:s.size = 0
 ·obtain ⟨e1,e2⟩:=empty_is h0
  rw [parse_size (by rw [li_len]; omega)]
  clear e2
  unfold toldV
  go_enter Tryz.func118,Tryz.ntmps118
  go_wp2_with fail
  refine bodyPost_ret (results_tmp4 rfl _ _ _) rfl ?_
  exact ⟨rfl,Gb.refl _ _⟩
 obtain ⟨e1,e2⟩:=empty_no h0
 clear e2
 by_cases h48:48 < s.size
 ·have h48':48 < (s.size:Int):=by omega
  rw [parse_size (by rw [li_len]; omega)]
  unfold toldV
  go_enter Tryz.func118,Tryz.ntmps118
  go_wp2_with fail
  refine bodyPost_ret (results_tmp4 rfl _ _ _) rfl ?_
  exact ⟨rfl,Gb.refl _ _⟩
 have h48':¬ 48 < (s.size:Int):=by omega
 have c1:=cutEpoch_gb s w (by omega) hm
 have hl:1 ≤ (li s).length ∧ (li s).length ≤ 48:=by rw [li_len]; omega
 have l1:=epF_len (li s)
 have l2:=rvF_len (epF (li s)).2.1
 cases he:(epF (li s)).2.2
 ·rw [parse_ep he]
  rw [he] at c1
  unfold toldV
  generalize S (epF (li s)).1 = x at *
  generalize S (epF (li s)).2.1 = y at *
  clear hl l1 l2 he
  go_enter Tryz.func118,Tryz.ntmps118
  go_wp2_with fail
  refine c1.mono ?_
  rintro e w1 ⟨rfl,k1⟩
  go_wp2_with fail
  refine bodyPost_ret (results_tmp4 rfl _ _ _) rfl ?_
  exact ⟨rfl,k1⟩
 ·rw [he] at c1
  have c2:=fun w=>cutRevision_gb (S (epF (li s)).2.1) w (by rw [S_size]; omega)
  rw [S_li] at c2
  cases hr:(rvF (epF (li s)).2.1).2.2
  ·rw [parse_rv he hr]
   rw [hr] at c2
   unfold toldV
   generalize S (rvF (epF (li s)).2.1).1 = u at *
   generalize S (rvF (epF (li s)).2.1).2.1 = v at *
   generalize S (epF (li s)).1 = x at *
   generalize S (epF (li s)).2.1 = y at *
   clear hl l1 l2 he hr
   go_enter Tryz.func118,Tryz.ntmps118
   go_wp2_with fail
   refine c1.mono ?_
   rintro e w1 ⟨rfl,k1⟩
   go_wp2_with fail
   refine (c2 _).mono ?_
   rintro e w2 ⟨rfl,k2⟩
   go_wp2_with fail
   refine bodyPost_ret (results_tmp4 rfl _ _ _) rfl ?_
   exact ⟨rfl,k1.trans (k2.mono k1.size)⟩
  ·rw [parse_up hl he hr]
   rw [hr] at c2
   have c3:=fun w=>isUpstream_gb (S (rvF (epF (li s)).2.1).1) w (by rw [S_size]; omega)
   rw [← up_is,S_li] at c3
   cases hu:upOK (rvF (epF (li s)).2.1).1
   ·rw [hu] at c3
    rw [if_neg (by simp)]
    unfold toldV
    generalize S (rvF (epF (li s)).2.1).1 = u at *
    generalize S (rvF (epF (li s)).2.1).2.1 = v at *
    generalize S (epF (li s)).1 = x at *
    generalize S (epF (li s)).2.1 = y at *
    clear hl l1 l2 he hr hu
    go_enter Tryz.func118,Tryz.ntmps118
    go_wp2_with fail
    refine c1.mono ?_
    rintro e w1 ⟨rfl,k1⟩
    go_wp2_with fail
    refine (c2 _).mono ?_
    rintro e w2 ⟨rfl,k2⟩
    go_wp2_with fail
    refine (c3 _).mono ?_
    rintro e w3 ⟨rfl,k3⟩
    go_wp2_with fail
    refine bodyPost_ret (results_tmp4 rfl _ _ _) rfl ?_
    exact ⟨rfl,k1.trans ((k2.trans (k3.mono k2.size)).mono k1.size)⟩
   ·rw [hu] at c3
    rw [if_pos rfl]
    unfold toldV
    simp only
    generalize S (rvF (epF (li s)).2.1).1 = u at *
    generalize S (rvF (epF (li s)).2.1).2.1 = v at *
    generalize S (epF (li s)).1 = x at *
    generalize S (epF (li s)).2.1 = y at *
    clear hl l1 l2 he hr hu
    go_enter Tryz.func118,Tryz.ntmps118
    go_wp2_with fail
    refine c1.mono ?_
    rintro e w1 ⟨rfl,k1⟩
    go_wp2_with fail
    refine (c2 _).mono ?_
    rintro e w2 ⟨rfl,k2⟩
    go_wp2_with fail
    refine (c3 _).mono ?_
    rintro e w3 ⟨rfl,k3⟩
    go_wp2_with fail
    refine bodyPost_ret (results_tmp4 rfl _ _ _) rfl ?_
    exact ⟨rfl,k1.trans ((k2.trans (k3.mono k2.size)).mono k1.size)⟩
theorem parse_any (s:ByteArray) (w:World) (hs:s.size ≤ 4611686018427387904) (hm:MaxLen w) :
  Calls Tryz.prog 118 #[.string s] w fun e w'=>e = .returned (toldV (parse (li s))) ∧ Below w.heap.size w w' :=
 (parse_gb s w hs hm).mono fun _ _ h=>⟨h.1,h.2.toBelow⟩
theorem isVersion_gb (s:ByteArray) (w:World) (hs:s.size ≤ 4611686018427387904) (hm:MaxLen w) :
  Calls Tryz.prog 94 #[.string s] w fun e w'=>e = .returned (.bool (parse (li s)).isSome) ∧ Gb w.heap.size w w':=by
 have c:=parse_gb s w hs hm
 cases hp:parse (li s) with
 | none =>
  rw [hp] at c
  unfold toldV at c
  clear hp
  go_enter Tryz.func94,Tryz.ntmps94
  go_wp2_with fail
  refine c.mono ?_
  rintro e w1 ⟨rfl,k1⟩
  go_wp2_with fail
  go_ret
  exact ⟨rfl,k1⟩
 | some p =>
  rw [hp] at c
  unfold toldV at c
  clear hp
  simp only at c
  generalize S p.1 = x at *
  generalize S p.2.1 = y at *
  generalize S p.2.2 = z at *
  go_enter Tryz.func94,Tryz.ntmps94
  go_wp2_with fail
  refine c.mono ?_
  rintro e w1 ⟨rfl,k1⟩
  go_wp2_with fail
  go_ret
  exact ⟨rfl,k1⟩
theorem isVersion_any (s:ByteArray) (w:World) (hs:s.size ≤ 4611686018427387904) (hm:MaxLen w) :
  Calls Tryz.prog 94 #[.string s] w fun e w'=>e = .returned (.bool (parse (li s)).isSome) ∧ Below w.heap.size w w' :=
 (isVersion_gb s w hs hm).mono fun _ _ h=>⟨h.1,h.2.toBelow⟩
end Ver
end Go.Proofs.YtmhpjjjjgakpiaaGreatDoor

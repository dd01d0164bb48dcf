/-
The small functions of package version and of its reference: signs, their places, how many bytes are of digits. Relations as lists of bytes: how an atom, a clause, a relation is read, by the code's way and by the reference's; that both tell the same. No program is named here. How atoms, clauses, relations are written, as lists of bytes. No program is named here.
-/
import Derived.Test.YthmpepnikmdjpaaGreatDoorProg
import Derived.Test.YthmpepnikmdjpaaGreatDoorCVerDef
import Derived.WalkKit
import Derived.ProofKit
import Derived.Below
import Derived.Lib.Hide
import Derived.Deep.LoopGhost
import Derived.Lib.OthersKept
import Derived.Lib.Join
namespace Go.Proofs.YthmpepnikmdjpaaGreatDoor
open Go.RowKit
set_option linter.unusedSimpArgs false
set_option linter.unusedVariables false
namespace Ver
open Txt (b b_eq b_lt dec_low dec_high sz on_iff)
abbrev li (s:ByteArray):Bs:=s.data.toList
theorem li_len (s:ByteArray):(li s).length = s.size:=by rw [Array.length_toList]; rfl
theorem li_drop (s:ByteArray) (k:Nat) (h:k < s.size):∃ c,(li s).drop k = c :: (li s).drop (k + 1) ∧ c.toNat = b s k:=by
 have hl:k < s.data.toList.length:=by rw [Array.length_toList]; exact h
 refine ⟨s.data.toList[k],List.drop_eq_getElem_cons hl,?_⟩
 unfold b
 rw [dif_pos h]
 rfl
theorem li_ext (s:ByteArray) (i j:Nat) (h:j ≤ s.size):li (s.extract i j) = ((li s).drop i).take (j - i):=by
 show (s.extract i j).data.toList = _
 rw [ByteArray.data_extract,Array.toList_extract]
theorem li_ext_end (s:ByteArray) (i:Nat):li (s.extract i s.size) = (li s).drop i:=by
 rw [li_ext s i s.size (Nat.le_refl _),List.take_of_length_le]
 rw [List.length_drop,li_len]; exact Nat.le_refl _
theorem li_ext_zero (s:ByteArray) (j:Nat) (h:j ≤ s.size):li (s.extract 0 j) = (li s).take j:=by
 rw [li_ext s 0 j h,List.drop_zero,Nat.sub_zero]
/-! ### signs by their numbers -/
def digN (c:Nat):Bool:=decide (48 ≤ c) && decide (c ≤ 57)
def smlN (c:Nat):Bool:=decide (97 ≤ c) && decide (c ≤ 122)
def alfN (c:Nat):Bool:=smlN c || (decide (65 ≤ c) && decide (c ≤ 90))
def sigN (c:Nat):Bool:=alfN c || digN c || decide (c = 43) || decide (c = 46) || decide (c = 126)
def upsN (c:Nat):Bool:=sigN c || decide (c = 45) || decide (c = 58)
theorem dig_n (c:UInt8):dig c = digN c.toNat:=by unfold dig digN; simp [UInt8.le_iff_toNat_le]
theorem alf_n (c:UInt8):alf c = alfN c.toNat:=by unfold alf alfN smlN; simp [UInt8.le_iff_toNat_le]
theorem sig_n (c:UInt8):sig c = sigN c.toNat:=by unfold sig sigN; rw [alf_n,dig_n]; simp [← UInt8.toNat_inj]
theorem ups_n (c:UInt8):ups c = upsN c.toNat:=by unfold ups upsN; rw [sig_n]; simp [← UInt8.toNat_inj]
theorem ret_bool {a b:Bool} {w:World} (h:a = true ↔ b = true):Ending.returned (Value.bool a) = Ending.returned (.bool b) ∧ w = w:=⟨by rw [Bool.eq_iff_iff.2 h],rfl⟩
theorem isDigit_any (r:Nat) (w:World):Calls Tryz.prog 188 #[.int .i32 r] w fun e w'=>e = .returned (.bool (digN r)) ∧ w' = w:=by
 go_enter Tryz.func188,Tryz.ntmps188
 go_wp2_with fail
 all_goals
  go_ret
  refine ret_bool ?_
  simp [digN]
  try omega
theorem isLetter_any (r:Nat) (w:World):Calls Tryz.prog 232 #[.int .i32 r] w fun e w'=>e = .returned (.bool (alfN r)) ∧ w' = w:=by
 go_enter Tryz.func232,Tryz.ntmps232
 go_wp2_with fail
 all_goals
  go_ret
  refine ret_bool ?_
  simp [alfN,smlN]
  try omega
theorem ydigit_any (r:Nat) (w:World):Calls Tryz.prog 91 #[.int .u8 r] w fun e w'=>e = .returned (.bool (digN r)) ∧ w' = w:=by
 go_enter Tryz.func91,Tryz.ntmps91
 go_wp2_with fail
 all_goals
  go_ret
  refine ret_bool ?_
  simp [digN]
  try omega
theorem ysmall_any (r:Nat) (w:World):Calls Tryz.prog 90 #[.int .u8 r] w fun e w'=>e = .returned (.bool (smlN r)) ∧ w' = w:=by
 go_enter Tryz.func90,Tryz.ntmps90
 go_wp2_with fail
 all_goals
  go_ret
  refine ret_bool ?_
  simp [smlN]
  try omega
theorem yletter_any (r:Nat) (w:World):Calls Tryz.prog 144 #[.int .u8 r] w fun e w'=>e = .returned (.bool (alfN r)) ∧ w' = w:=by
 obtain ⟨G,hG⟩:∃ G,smlN r = G:=⟨_,rfl⟩
 have HG:=Lib.hid hG
 have c:=ysmall_any r w
 rw [hG] at c
 clear hG
 go_enter Tryz.func144,Tryz.ntmps144
 go_wp2_with fail
 refine c.mono ?_
 rintro e w' ⟨rfl,rfl⟩
 cases G
 all_goals
  go_wp2_with fail
  all_goals
   go_ret
   refine ret_bool ?_
   simp [alfN,HG.out]
   try omega
theorem isSign_any (r:Nat) (w:World):Calls Tryz.prog 189 #[.int .i32 r] w fun e w'=>e = .returned (.bool (sigN r)) ∧ w' = w:=by
 obtain ⟨G,hG⟩:∃ G,alfN r = G:=⟨_,rfl⟩
 have HG:=Lib.hid hG
 have c:=isLetter_any r w
 rw [hG] at c
 clear hG
 obtain ⟨D,hD⟩:∃ D,digN r = D:=⟨_,rfl⟩
 have HD:=Lib.hid hD
 have d:=isDigit_any r w
 rw [hD] at d
 clear hD
 go_enter Tryz.func189,Tryz.ntmps189
 go_wp2_with fail
 refine c.mono ?_
 rintro e w' ⟨rfl,rfl⟩
 cases G
 ·go_wp2_with fail
  refine d.mono ?_
  rintro e w' ⟨rfl,rfl⟩
  cases D
  all_goals
   go_wp2_with fail
   all_goals
    go_ret
    refine ret_bool ?_
    simp [sigN,HG.out,HD.out]
    try omega
 ·go_wp2_with fail
  go_ret
  refine ret_bool ?_
  simp [sigN,HG.out]
/-! ### how many bytes are of digits -/
def spn (d:Bool):Bs → Nat
 | []=>0
 | c :: r=>if dig c = d then spn d r + 1 else 0
theorem spn_le (d:Bool):∀ l:Bs,spn d l ≤ l.length
 | []=>Nat.le_refl _
 | c :: r=>by
  have:=spn_le d r
  unfold spn; split <;> simp <;> omega
theorem spn_take (d:Bool):∀ l:Bs,∀ c ∈ l.take (spn d l),dig c = d
 | [],c,h=>by simp [spn] at h
 | x :: r,c,h=>by
  unfold spn at h
  by_cases e:dig x = d
  ·rw [if_pos e,List.take_succ_cons] at h
   rcases List.mem_cons.1 h with rfl | h
   ·exact e
   ·exact spn_take d r c h
  ·rw [if_neg e] at h; simp at h
def headIs (d:Bool):Bs → Prop
 | []=>True
 | c :: _=>dig c = d
theorem spn_drop (d:Bool):∀ l:Bs,headIs (!d) (l.drop (spn d l))
 | []=>trivial
 | x :: r=>by
  unfold spn
  by_cases e:dig x = d
  ·rw [if_pos e,List.drop_succ_cons]; exact spn_drop d r
  ·rw [if_neg e,List.drop_zero]
   show dig x = !d
   cases d <;> cases h:dig x <;> simp_all
theorem spn_more {s:ByteArray} {d:Bool} {k N:Nat} (h:k < s.size) (hk:digN (b s k) = d) (hN:k + spn d ((li s).drop k) = N):k + 1 + spn d ((li s).drop (k + 1)) = N:=by
 obtain ⟨c,hc,hb⟩:=li_drop s k h
 rw [hc] at hN
 have:dig c = d:=by rw [dig_n,hb]; exact hk
 unfold spn at hN
 rw [if_pos this] at hN
 omega
theorem spn_stop {s:ByteArray} {d:Bool} {k N:Nat} (h:k < s.size) (hk:digN (b s k) ≠ d) (hN:k + spn d ((li s).drop k) = N):N = k:=by
 obtain ⟨c,hc,hb⟩:=li_drop s k h
 rw [hc] at hN
 have:dig c ≠ d:=by rw [dig_n,hb]; exact hk
 unfold spn at hN
 rw [if_neg this] at hN
 omega
theorem spn_end {s:ByteArray} {d:Bool} {k N:Nat} (h:¬ k < s.size) (hN:k + spn d ((li s).drop k) = N):N = k:=by
 rw [List.drop_eq_nil_of_le (by rw [li_len]; omega)] at hN
 exact hN.symm
theorem spn_jump {s:ByteArray} {N:Nat}:∀ (n k:Nat),k + n ≤ s.size → (∀ j,j < n → 128 ≤ b s (k + j)) → k + spn false ((li s).drop k) = N → k + n + spn false ((li s).drop (k + n)) = N
 | 0,_,_,_,h=>h
 | n + 1,k,h1,h2,h=>by
  have e:=spn_more (by omega) (by have:=h2 0 (by omega); rw [Nat.add_zero] at this; unfold digN; simp; omega) h
  have:=spn_jump n (k + 1) (by omega) (fun j hj=>by have:=h2 (j + 1) (by omega); rwa [show k + (j + 1) = k + 1 + j by omega] at this) e
  rwa [show k + 1 + n = k + (n + 1) by omega] at this
theorem sz_high (s:ByteArray) (i:Nat) (hb:128 ≤ b s i):∀ j,j < sz s i → 128 ≤ b s (i + j):=by
 intro j hj
 unfold sz at hj
 simp only [on_iff] at hj
 have hj4:j = 0 ∨ j = 1 ∨ j = 2 ∨ j = 3:=by
  revert hj
  repeat' split
  all_goals omega
 rcases hj4 with rfl | rfl | rfl | rfl
 ·exact hb
 all_goals
  revert hj
  repeat' split
  all_goals omega
set_option maxRecDepth 100000 in
set_option maxHeartbeats 2000000 in
theorem span_any (s:ByteArray) (d:Bool) (w:World) (hs:s.size ≤ 9223372036854775807) :
  Calls Tryz.prog 185 #[.string s,.bool d] w fun e w'=>e = .returned (.int .i64 (spn d (li s))) ∧ Below w.heap.size w w':=by
 obtain ⟨G,hG⟩:∃ G,spn d (li s) = G:=⟨_,rfl⟩
 have HG:=Lib.hid hG
 rw [hG]
 clear hG
 go_enter Tryz.func185,Tryz.ntmps185
 go_wp2
 go_loopg [] s.size (fun gf wx=>∃ pos:Nat,wx.heap[w.heap.size]? = some (.stringIter s pos) ∧ Below w.heap.size w wx ∧ Hid (pos + spn d ((li s).drop pos) = G) ∧ s.size ≤ pos + gf ∧ pos ≤ s.size)
 case atStart=>exact ⟨0,World.iter_heap w s 0,(Below.refl _ _).alloc (Nat.le_refl _) _,(by rw [List.drop_zero,Nat.zero_add]; exact HG.out),by omega,by omega⟩
 case round =>
  obtain ⟨pos,hit,hbw,HN,hfu,hps⟩:=hrel
  by_cases hlt:pos < s.size
  ·obtain ⟨g',rfl⟩:∃ g',gk = g' + 1:=⟨gk - 1,by omega⟩
   have hnx:∀ ty,(Instr.next (.pointer (some ⟨w.heap.size,0,none⟩)) true ty).run Tryz.prog wr = _:=fun ty=>Lib.run_next_any_at wr w.heap.size s pos ty hit hlt
   obtain ⟨W,hW⟩:∃ W,wr.iterAt w.heap.size s (pos + (Utf8.decode s pos).2) = W:=⟨_,rfl⟩
   have hit2:=Lib.iterAt_heap wr w.heap.size s pos (pos + (Utf8.decode s pos).2) hit
   have hbw2:=Lib.below_iterAt hbw (k:=w.heap.size) (Nat.le_refl _) s (pos + (Utf8.decode s pos).2)
   rw [hW] at hnx hit2 hbw2
   clear hW hit hbw
   by_cases hb:b s pos < 128
   ·rw [dec_low s pos hlt hb] at hnx hit2
    have hm:=fun h=>spn_more hlt h HN.out
    have ht:=fun h=>spn_stop hlt h HN.out
    obtain ⟨c,hc⟩:∃ c,b s pos = c:=⟨_,rfl⟩
    rw [hc] at hnx hb hm ht
    clear hc
    go_wp2_with fail
    refine (isDigit_any _ _).mono ?_
    rintro e w' ⟨rfl,rfl⟩
    by_cases hd:digN c = d
    ·have HM:=Lib.hid (hm hd)
     rw [hd]
     clear hm ht hd HN
     go_wp2_with fail
     go_roundg g'
     case measure=>omega
     case rel=>exact ⟨pos + 1,hit2,hbw2,HM,by omega,by omega⟩
    ·obtain rfl:=ht hd
     have hne:(digN c == d) = false:=by cases d <;> cases h:digN c <;> simp_all
     clear hm ht hd HN HG
     go_wp2_with fail
     go_ret
     exact ⟨rfl,hbw2⟩
   ·have hno:digN (b s pos) = false:=by unfold digN; simp; omega
    have hr:digN (Utf8.decode s pos).1 = false:=by
     rcases dec_high s pos hlt (by omega) with ⟨_,hd⟩ | ⟨_,_,_,hr⟩
     ·rw [hd]; decide
     ·unfold digN; simp; omega
    have hstep:∃ n,0 < n ∧ (Utf8.decode s pos).2 = n ∧ pos + n ≤ s.size ∧ ∀ j,j < n → 128 ≤ b s (pos + j):=by
     rcases dec_high s pos hlt (by omega) with ⟨_,hd⟩ | ⟨h1,h2,h3,_⟩
     ·exact ⟨1,by omega,by rw [hd],by omega,fun j hj=>by rw [show j = 0 by omega,Nat.add_zero]; omega⟩
     ·exact ⟨sz s pos,by omega,h3,h2,sz_high s pos (by omega)⟩
    obtain ⟨n,hn0,hn,hnle,hnall⟩:=hstep
    obtain ⟨R,hR⟩:∃ R,(Utf8.decode s pos).1 = R:=⟨_,rfl⟩
    rw [hR] at hnx hr
    rw [hn] at hit2
    clear hR hn
    cases d
    ·have HM:=Lib.hid (spn_jump n pos hnle hnall HN.out)
     clear HN hnall hno HG
     go_wp2_with fail
     refine (isDigit_any _ _).mono ?_
     rintro e w' ⟨rfl,rfl⟩
     rw [hr]
     go_wp2_with fail
     go_roundg g'
     case measure=>omega
     case rel=>exact ⟨pos + n,hit2,hbw2,HM,by omega,by omega⟩
    ·obtain rfl:=spn_stop hlt (by rw [hno]; simp) HN.out
     clear HN hnall hno HG
     go_wp2_with fail
     refine (isDigit_any _ _).mono ?_
     rintro e w' ⟨rfl,rfl⟩
     rw [hr]
     go_wp2_with fail
     go_ret
     exact ⟨rfl,hbw2⟩
  ·have hne:∀ ty,(Instr.next (.pointer (some ⟨w.heap.size,0,none⟩)) true ty).run Tryz.prog wr = _:=fun ty=>Lib.run_next_end_at wr w.heap.size s pos ty hit hlt
   obtain rfl:=spn_end hlt HN.out
   obtain rfl:G = s.size:=by omega
   clear HN HG
   go_wp2_with fail
   go_ret
   exact ⟨rfl,hbw⟩
end Ver
end Go.Proofs.YthmpepnikmdjpaaGreatDoor
namespace Go.Proofs.YthmpepnikmdjpaaGreatDoor
set_option linter.unusedSimpArgs false
set_option linter.unusedVariables false
namespace Rl
open Ver (Bs)
abbrev At:=Bs × Int × Bs
def wh (c:UInt8):Bool:=decide (c = 32) || decide (c = 9)
def sg (c:UInt8):Bool:=decide (c = 60) || decide (c = 61) || decide (c = 62)
def mk (c:UInt8):Bool:=decide (c = 44) || decide (c = 124) || decide (c = 40) || decide (c = 41)
def wd (c:UInt8):Bool:=!wh c && !sg c && !mk c
def yd (c:UInt8):Bool:=!wh c && !mk c
def lds (c:UInt8):Bool:=(decide (97 ≤ c) && decide (c ≤ 122)) || (decide (48 ≤ c) && decide (c ≤ 57))
def mrs (c:UInt8):Bool:=decide (c = 43) || decide (c = 45) || decide (c = 46)
def nch (c:UInt8):Bool:=lds c || mrs c
def vch (c:UInt8):Bool:=Ver.ups c
def nmB:Bs → Bool
 | []=>false
 | c :: r=>decide (1 ≤ r.length ∧ r.length ≤ 23) && lds c && r.all nch
def isV (v:Bs):Bool:=(Ver.parse v).isSome
def skip (l:Bs):Bs:=l.dropWhile wh
def relN (s:Bs):Int:=if s = [60,60] then 1 else if s = [60,61] then 2 else if s = [61] then 3 else if s = [62,61] then 4 else if s = [62,62] then 5 else 0
def sgnN (r:Int):Bs:=if r = 1 then [60,60] else if r = 2 then [60,61] else if r = 3 then [61] else if r = 4 then [62,61] else if r = 5 then [62,62] else []
def may (a:At):Bool:=nmB a.1 && (if a.2.1 = 0 then a.2.2.isEmpty else decide (1 ≤ a.2.1 ∧ a.2.1 ≤ 5) && isV a.2.2)
def tk (c:UInt8):Bs → Option Bs
 | []=>none
 | x :: r=>if x = c then some (skip r) else none
def atom (l:Bs):Option (At × Bs) :=
 match tk 40 (skip (l.dropWhile wd)) with
 | none=>if may (l.takeWhile wd,0,[]) = true then some ((l.takeWhile wd,0,[]),skip (l.dropWhile wd)) else none
 | some l2 =>
  if relN (l2.takeWhile sg) = 0 then none else
  match tk 41 (skip ((skip (l2.dropWhile sg)).dropWhile wd)) with
  | none=>none
  | some l5=>if may (l.takeWhile wd,relN (l2.takeWhile sg),(skip (l2.dropWhile sg)).takeWhile wd) = true then some ((l.takeWhile wd,relN (l2.takeWhile sg),(skip (l2.dropWhile sg)).takeWhile wd),l5) else none
section
variable {α:Type}
def items (rd:Bs → Except Int (α × Bs)) (c:UInt8):Nat → Bs → Except Int (List α × Bs)
 | 0,_=>.error 12
 | k + 1,l=>match rd l with
  | .error e=>.error e
  | .ok (x,l1)=>match tk c l1 with
   | none=>.ok ([x],l1)
   | some l2=>match items rd c k l2 with
    | .error e=>.error e
    | .ok (xs,l3)=>.ok (x :: xs,l3)
def yitems (rd:Bs → Except Int (α × Bs)):Nat → Bs → Except Int (List α)
 | 0,_=>.error 12
 | k + 1,l=>match rd l with
  | .error e=>.error e
  | .ok (x,l1)=>if l1 = [] then .ok [x] else match tk 44 l1 with
   | none=>.error 3
   | some l2=>match yitems rd k l2 with
    | .error e=>.error e
    | .ok xs=>.ok (x :: xs)
def whole (rd:Bs → Except Int (α × Bs)) (s:Bs):Except Int (List α) :=
 if skip s = [] then .ok [] else match items rd 44 12 (skip s) with
  | .error e=>.error e
  | .ok (xs,r)=>if r = [] then .ok xs else .error 3
end
def rdA (l:Bs):Except Int (At × Bs):=match atom l with
 | none=>.error 3
 | some p=>.ok p
def rdC:Bs → Except Int (List At × Bs):=items rdA 124 6
abbrev Pv:=Bs × Bs
def prv (e:Except Int (At × Bs)):Except Int (Pv × Bs):=match e with
 | .error _=>.error 3
 | .ok (a,r)=>if a.2.1 = 0 ∨ a.2.1 = 3 then .ok ((a.1,a.2.2),r) else .error 3
def rdP (l:Bs):Except Int (Pv × Bs):=prv (rdA l)
/-! ### small facts -/
theorem skip_nw {l:Bs} (h:∀ c r,l = c :: r → wh c = false):skip l = l:=by
 cases l with
 | nil=>rfl
 | cons c r=>unfold skip; rw [List.dropWhile_cons,h c r rfl]; rfl
theorem skip_w {g:Bs} (h:g.all wh = true) (l:Bs):skip (g ++ l) = skip l:=by
 induction g with
 | nil=>rfl
 | cons x t ih =>
  rw [List.all_cons,Bool.and_eq_true] at h
  show skip (x :: (t ++ l)) = _
  unfold skip
  rw [List.dropWhile_cons,h.1]
  exact ih h.2
theorem tk_eq (c x:UInt8) (r:Bs):tk c (x :: r) = if x = c then some (skip r) else none:=rfl
theorem tk_some {c:UInt8} {l r:Bs} (h:tk c l = some r):∃ t,l = c :: t ∧ r = skip t:=by
 cases l with
 | nil=>cases h
 | cons x t =>
  rw [tk_eq] at h
  by_cases e:x = c
  ·rw [if_pos e] at h; subst e; cases h; exact ⟨t,rfl,rfl⟩
  ·rw [if_neg e] at h; cases h
theorem tk_cons (c:UInt8) (r:Bs):tk c (c :: r) = some (skip r):=by rw [tk_eq,if_pos rfl]
theorem tk_ne {c x:UInt8} (h:x ≠ c) (r:Bs):tk c (x :: r) = none:=by rw [tk_eq,if_neg h]
theorem tw_app (p:UInt8 → Bool):∀ (n t:Bs),n.all p = true → (∀ c r,t = c :: r → p c = false) → (n ++ t).takeWhile p = n ∧ (n ++ t).dropWhile p = t
 | [],t,_,h=>by
  cases t with
  | nil=>exact ⟨rfl,rfl⟩
  | cons c r=>rw [List.nil_append,List.takeWhile_cons,List.dropWhile_cons,h c r rfl]; exact ⟨rfl,rfl⟩
 | x :: n,t,hn,h=>by
  rw [List.all_cons,Bool.and_eq_true] at hn
  obtain ⟨h1,h2⟩:=tw_app p n t hn.2 h
  rw [List.cons_append,List.takeWhile_cons,List.dropWhile_cons,hn.1]
  simp only [if_true]
  rw [h1,h2]
  exact ⟨rfl,rfl⟩
theorem wd_yd (c:UInt8):wd c = true → yd c = true:=by unfold wd yd; cases wh c <;> cases sg c <;> cases mk c <;> simp
theorem sg_yd {c:UInt8} (h:sg c = true):yd c = true:=by
 unfold sg at h; unfold yd wh mk
 simp only [Bool.or_eq_true,decide_eq_true_eq] at h
 rcases h with (rfl | rfl) | rfl <;> decide
theorem sg_wd {c:UInt8} (h:sg c = true):wd c = false:=by unfold wd; rw [h]; cases wh c <;> rfl
theorem sg_ne {c:UInt8} (h:sg c = true):c ≠ 44 ∧ c ≠ 124 ∧ c ≠ 40 ∧ c ≠ 41 ∧ c ≠ 32 ∧ c ≠ 9:=by
 unfold sg at h
 simp only [Bool.or_eq_true,decide_eq_true_eq] at h
 rcases h with (rfl | rfl) | rfl <;> decide
theorem sg_wh {c:UInt8} (h:sg c = true):wh c = false:=by
 obtain ⟨_,_,_,_,h1,h2⟩:=sg_ne h
 unfold wh; simp [h1,h2]
theorem nch_wd {c:UInt8} (h:nch c = true):wd c = true:=by
 have:∀ x:BitVec 8,nch ⟨x⟩ = true → wd ⟨x⟩ = true:=by decide +kernel
 exact this c.toBitVec h
theorem vch_wd {c:UInt8} (h:vch c = true):wd c = true:=by
 have:∀ x:BitVec 8,vch ⟨x⟩ = true → wd ⟨x⟩ = true:=by decide +kernel
 exact this c.toBitVec h
theorem nm_all {n:Bs} (h:nmB n = true):n.all wd = true:=by
 cases n with
 | nil=>cases h
 | cons c r =>
  unfold nmB at h
  simp only [Bool.and_eq_true] at h
  rw [List.all_cons,Bool.and_eq_true]
  refine ⟨nch_wd (by unfold nch; rw [h.1.2]; rfl),?_⟩
  rw [List.all_eq_true]
  intro x hx
  exact nch_wd (List.all_eq_true.1 h.2 x hx)
theorem nm_ne {n:Bs} (h:nmB n = true):n ≠ []:=by rintro rfl; cases h
theorem cut1_all {x:UInt8} (p:UInt8 → Bool) (hx:p x = true):∀ l a r:Bs,Ver.cut1 x l = some (a,r) → a.all p = true → r.all p = true → l.all p = true
 | [],_,_,h,_,_=>by cases h
 | c :: l,a,r,h,ha,hr=>by
  unfold Ver.cut1 at h
  split at h
  ·rename_i e; subst e; cases h; rw [List.all_cons,hx]; exact hr
  ·cases hc:Ver.cut1 x l with
   | none=>rw [hc] at h; cases h
   | some q =>
    rw [hc] at h
    simp only [Option.map_some,Option.some.injEq,Prod.mk.injEq] at h
    obtain ⟨rfl,rfl⟩:=h
    rw [List.all_cons,Bool.and_eq_true] at ha
    rw [List.all_cons,ha.1]
    exact cut1_all p hx l q.1 q.2 hc ha.2 hr
theorem cutZ_all {x:UInt8} (p:UInt8 → Bool) (hx:p x = true):∀ l a r:Bs,Ver.cutZ x l = some (a,r) → a.all p = true → r.all p = true → l.all p = true
 | [],_,_,h,_,_=>by cases h
 | c :: l,a,r,h,ha,hr=>by
  unfold Ver.cutZ at h
  cases hc:Ver.cutZ x l with
  | some q =>
   rw [hc] at h
   simp only [Option.some.injEq,Prod.mk.injEq] at h
   obtain ⟨rfl,rfl⟩:=h
   rw [List.all_cons,Bool.and_eq_true] at ha
   rw [List.all_cons,ha.1]
   exact cutZ_all p hx l q.1 q.2 hc ha.2 hr
  | none =>
   rw [hc] at h
   simp only at h
   split at h
   ·rename_i e; subst e; cases h; rw [List.all_cons,hx]; exact hr
   ·cases h
theorem all_mono {p q:UInt8 → Bool} (h:∀ c,p c = true → q c = true) {l:Bs} (hl:l.all p = true):l.all q = true:=by
 rw [List.all_eq_true] at hl ⊢
 exact fun x hx=>h x (hl x hx)
theorem ver_all {v:Bs} (h:isV v = true):v.all vch = true ∧ v ≠ [] ∧ v.length ≤ 48:=by
 unfold isV Ver.parse at h
 split at h
 ·rename_i hl
  refine ⟨?_,by rintro rfl; simp at hl,hl.2⟩
  unfold Ver.epochOf at h
  have hrev:∀ r:Bs,(match Ver.revOf r with | none=>none | some (u,w)=>if Ver.upOK u = true then some (([]:Bs),u,w) else none).isSome = true → r.all vch = true:=by
   intro r hr
   unfold Ver.revOf at hr
   have hup:∀ u,Ver.upOK u = true → u.all vch = true:=by
    intro u hu
    cases u with
    | nil=>cases hu
    | cons c t =>
     unfold Ver.upOK at hu
     simp only [Bool.and_eq_true] at hu
     exact hu.2
   cases hc:Ver.cutZ 45 r with
   | none =>
    rw [hc] at hr
    simp only at hr
    split at hr
    ·rename_i k; exact hup _ k
    ·cases hr
   | some q =>
    obtain ⟨u,w⟩:=q
    rw [hc] at hr
    simp only at hr
    by_cases hw:w ≠ [] ∧ w.all Ver.sig = true
    ·rw [if_pos hw] at hr
     simp only at hr
     split at hr
     ·rename_i k
      refine cutZ_all vch (by decide +kernel) r u w hc (hup _ k) (all_mono (fun c hc=>?_) hw.2)
      unfold vch Ver.ups; rw [hc]; rfl
     ·cases hr
    ·rw [if_neg hw] at hr; cases hr
  have hrev':∀ (e r:Bs),(match Ver.revOf r with | none=>none | some (u,w)=>if Ver.upOK u = true then some ((e:Bs),u,w) else none).isSome = true → r.all vch = true:=by
   intro e r hr
   refine hrev r ?_
   cases hq:Ver.revOf r with
   | none=>rw [hq] at hr; cases hr
   | some q =>
    obtain ⟨u,w⟩:=q
    rw [hq] at hr
    simp only at hr ⊢
    split at hr
    ·rename_i k; rw [if_pos k]; rfl
    ·cases hr
  cases hc:Ver.cut1 58 v with
  | none =>
   rw [hc] at h
   exact hrev' [48] v h
  | some q =>
   obtain ⟨e,r⟩:=q
   rw [hc] at h
   simp only at h
   by_cases he:1 ≤ e.length ∧ e.length ≤ 9 ∧ e.all Ver.dig = true
   ·rw [if_pos he] at h
    refine cut1_all vch (by decide +kernel) v e r hc (all_mono (fun c hc=>?_) he.2.2) (hrev' e r h)
    unfold vch Ver.ups Ver.sig; rw [hc]; simp
   ·rw [if_neg he] at h; cases h
 ·cases h
theorem ver_wd {v:Bs} (h:isV v = true):v.all wd = true:=all_mono (fun c=>vch_wd) (ver_all h).1
theorem sgn_sg (r:Int):(sgnN r).all sg = true:=by unfold sgnN; repeat' split
                                                  all_goals decide
theorem rel_sgn (r:Int) (h:1 ≤ r ∧ r ≤ 5):relN (sgnN r) = r:=by
 have:r = 1 ∨ r = 2 ∨ r = 3 ∨ r = 4 ∨ r = 5:=by omega
 rcases this with rfl | rfl | rfl | rfl | rfl <;> decide
theorem rel_nil:relN [] = 0:=by decide
/-! ### the same -/
def Stuck (r:Bs):Prop:=r ≠ [] ∧ tk 44 r = none ∧ tk 124 r = none
def R {α:Type} (c y:Except Int (α × Bs)):Prop:=c = y ∨ (y = .error 3 ∧ ∃ x r,c = .ok (x,r) ∧ Stuck r)
/-! ### one atom -/
def one (s:Bs):Option At:=match atom (skip s) with
 | some (a,[])=>some a
 | _=>none
theorem items_ne {α:Type} {rd:Bs → Except Int (α × Bs)} {c:UInt8} {k:Nat} {l r:Bs} {xs:List α} (h:items rd c k l = .ok (xs,r)):xs ≠ []:=by
 rintro rfl
 cases k with
 | zero=>cases h
 | succ k =>
  unfold items at h
  cases h1:rd l with
  | error e=>rw [h1] at h; cases h
  | ok p =>
   obtain ⟨x,l1⟩:=p
   rw [h1] at h
   simp only at h
   cases h2:tk c l1 with
   | none=>rw [h2] at h; cases h
   | some l2 =>
    rw [h2] at h
    simp only at h
    cases h3:items rd c k l2 with
    | error e=>rw [h3] at h; cases h
    | ok q=>rw [h3] at h; cases h
end Rl
end Go.Proofs.YthmpepnikmdjpaaGreatDoor
namespace Go.Proofs.YthmpepnikmdjpaaGreatDoor
set_option linter.unusedSimpArgs false
set_option linter.unusedVariables false
namespace Rl
open Ver (Bs)
def txA (a:At):Bs:=if a.2.1 = 0 then a.1 else a.1 ++ [32] ++ [40] ++ sgnN a.2.1 ++ [32] ++ a.2.2 ++ [41]
def wAt (a:At):Bs:=if may a = true then txA a else []
def wrt {α:Type} (most:Nat) (sep:Bs) (one:α → Bs) (l:List α):Bs:=if most < l.length then [] else if l.any (fun x=>(one x).isEmpty) = true then [] else Lib.join (l.map one) sep
def wCl:List At → Bs:=wrt 6 [32,124,32] wAt
def text:List (List At) → Bs:=wrt 12 [44,32] wCl
def atoms:List At → Bs:=wrt 12 [44,32] wAt
def pvA (p:Pv):At:=(p.1,if p.2 = [] then 0 else 3,p.2)
def provs:List Pv → Bs:=wrt 12 [44,32] (fun p=>wAt (pvA p))
theorem may_sizes {a:At} (h:may a = true):a.1.length ≤ 24 ∧ a.2.2.length ≤ 48:=by
 obtain ⟨n,r,v⟩:=a
 unfold may at h
 simp only [Bool.and_eq_true] at h
 obtain ⟨h1,h2⟩:=h
 refine ⟨?_,?_⟩
 ·cases n with
  | nil=>cases h1
  | cons c t =>
   unfold nmB at h1
   simp only [Bool.and_eq_true,decide_eq_true_eq] at h1
   simp; omega
 ·by_cases hr:r = 0
  ·rw [if_pos hr] at h2
   cases v with
   | nil=>simp
   | cons c t=>cases h2
  ·rw [if_neg hr] at h2
   simp only [Bool.and_eq_true] at h2
   exact (ver_all h2.2).2.2
theorem sgn_len (r:Int):(sgnN r).length ≤ 2:=by
 unfold sgnN
 repeat' split
 all_goals decide
theorem txA_len {a:At} (h:may a = true):(txA a).length ≤ 78:=by
 obtain ⟨h1,h2⟩:=may_sizes h
 have:=sgn_len a.2.1
 unfold txA
 split
 ·omega
 ·simp only [List.length_append,List.length_cons,List.length_nil]; omega
theorem wAt_len (a:At):(wAt a).length ≤ 78:=by
 unfold wAt
 split
 ·rename_i h; exact txA_len h
 ·simp
theorem txA_ne {a:At} (h:may a = true):txA a ≠ []:=by
 have hn:nmB a.1 = true:=by unfold may at h; simp only [Bool.and_eq_true] at h; exact h.1
 have:=nm_ne hn
 unfold txA
 split
 ·exact this
 ·simp
theorem join_len (sep:Bs) (m:Nat):∀ ls:List Bs,(∀ l ∈ ls,l.length ≤ m) → (Lib.join ls sep).length ≤ ls.length * (m + sep.length)
 | [],_=>by simp [Lib.join]
 | [x],h=>by have:=h x (by simp); simp [Lib.join]; omega
 | x :: y :: r,h=>by
  have h1:=h x (by simp)
  have h2:=join_len sep m (y :: r) fun l hl=>h l (List.mem_cons_of_mem _ hl)
  have e:Lib.join (x :: y :: r) sep = x ++ sep ++ Lib.join (y :: r) sep:=by simp [Lib.join]
  rw [e]
  simp only [List.length_append,List.length_cons] at h2 ⊢
  rw [Nat.add_mul _ 1]
  omega
theorem wCl_len (c:List At):(wCl c).length ≤ 600:=by
 unfold wCl wrt
 split
 ·simp
 ·split
  ·simp
  ·rename_i h _
   have:=join_len [32,124,32] 78 (c.map wAt) fun l hl=>by
    obtain ⟨a,_,rfl⟩:=List.mem_map.1 hl
    exact wAt_len a
   rw [List.length_map] at this
   have h6:c.length ≤ 6:=by omega
   have:=Nat.le_trans this (Nat.mul_le_mul_right _ h6)
   simpa using Nat.le_trans this (by simp)
end Rl
end Go.Proofs.YthmpepnikmdjpaaGreatDoor

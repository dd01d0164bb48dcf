/-
The small functions of package version and of its reference: signs, their places, how many bytes are of digits. Relations as lists of bytes: how an atom, a clause, a relation is read, by the code's way and by the reference's; that both tell the same. No program is named here. How atoms, clauses, relations are written, as lists of bytes. No program is named here.
-/
import Derived.Test.YtmhpjjjjgakpiaaGreatDoorProg
import Derived.Test.YtmhpjjjjgakpiaaGreatDoorCTextUtf
import Derived.Test.YtmhpjjjjgakpiaaGreatDoorCVerDef
import Derived.WalkKit
import Derived.ProofKit
import Derived.Below
import Derived.Deep.Draws
import Derived.Lib.Hide
import Derived.Deep.LoopGhost
import Derived.Lib.OthersKept
import Derived.Lib.Join
namespace Go.Proofs.YtmhpjjjjgakpiaaGreatDoor
open Go.RowKit
set_option linter.unusedSimpArgs false
set_option linter.unusedVariables false
namespace Ver
open Txt (b dec_low dec_high sz on_iff)
abbrev li (s:ByteArray):Bs:=s.data.toList
theorem li_len (s:ByteArray):(li s).length = s.size:=by rw [Array.length_toList]; rfl
theorem li_drop (s:ByteArray) (k:Nat) (h:k < s.size):∃ c,(li s).drop k = c :: (li s).drop (k + 1) ∧ c.toNat = b s k:=by
 have hl:k < s.data.toList.length:=by rw [Array.length_toList]; exact h
 refine ⟨s.data.toList[k],List.drop_eq_getElem_cons hl,?_⟩
 unfold b
 rw [dif_pos h]
 rfl
theorem li_ext (s:ByteArray) (i j:Nat) (h:j ≤ s.size):li (s.extract i j) = ((li s).drop i).take (j - i):=by
 show (s.extract i j).data.toList = _
 rw [ByteArray.data_extract,Array.toList_extract]
theorem li_ext_end (s:ByteArray) (i:Nat):li (s.extract i s.size) = (li s).drop i:=by
 rw [li_ext s i s.size (Nat.le_refl _),List.take_of_length_le]
 rw [List.length_drop,li_len]; exact Nat.le_refl _
theorem li_ext_zero (s:ByteArray) (j:Nat) (h:j ≤ s.size):li (s.extract 0 j) = (li s).take j:=by
 rw [li_ext s 0 j h,List.drop_zero,Nat.sub_zero]
/-! ### signs by their numbers -/
def digN (c:Nat):Bool:=decide (48 ≤ c) && decide (c ≤ 57)
def smlN (c:Nat):Bool:=decide (97 ≤ c) && decide (c ≤ 122)
def alfN (c:Nat):Bool:=smlN c || (decide (65 ≤ c) && decide (c ≤ 90))
def sigN (c:Nat):Bool:=alfN c || digN c || decide (c = 43) || decide (c = 46) || decide (c = 126)
def upsN (c:Nat):Bool:=sigN c || decide (c = 45) || decide (c = 58)
theorem dig_n (c:UInt8):dig c = digN c.toNat:=by unfold dig digN; simp [UInt8.le_iff_toNat_le]
theorem alf_n (c:UInt8):alf c = alfN c.toNat:=by unfold alf alfN smlN; simp [UInt8.le_iff_toNat_le]
theorem sig_n (c:UInt8):sig c = sigN c.toNat:=by unfold sig sigN; rw [alf_n,dig_n]; simp [← UInt8.toNat_inj]
theorem ups_n (c:UInt8):ups c = upsN c.toNat:=by unfold ups upsN; rw [sig_n]; simp [← UInt8.toNat_inj]
theorem ret_bool {a b:Bool} {w:World} (h:a = true ↔ b = true):Ending.returned (Value.bool a) = Ending.returned (.bool b) ∧ w = w:=⟨by rw [Bool.eq_iff_iff.2 h],rfl⟩
theorem isDigit_any (r:Nat) (w:World):Calls Tryz.prog 175 #[.int .i32 r] w fun e w'=>e = .returned (.bool (digN r)) ∧ w' = w:=by
 go_enter Tryz.func175,Tryz.ntmps175
 go_wp2_with fail
 all_goals
  go_ret
  refine ret_bool ?_
  simp [digN]
  try omega
theorem isLetter_any (r:Nat) (w:World):Calls Tryz.prog 188 #[.int .i32 r] w fun e w'=>e = .returned (.bool (alfN r)) ∧ w' = w:=by
 go_enter Tryz.func188,Tryz.ntmps188
 go_wp2_with fail
 all_goals
  go_ret
  refine ret_bool ?_
  simp [alfN,smlN]
  try omega
theorem ydigit_any (r:Nat) (w:World):Calls Tryz.prog 83 #[.int .u8 r] w fun e w'=>e = .returned (.bool (digN r)) ∧ w' = w:=by
 go_enter Tryz.func83,Tryz.ntmps83
 go_wp2_with fail
 all_goals
  go_ret
  refine ret_bool ?_
  simp [digN]
  try omega
theorem ysmall_any (r:Nat) (w:World):Calls Tryz.prog 82 #[.int .u8 r] w fun e w'=>e = .returned (.bool (smlN r)) ∧ w' = w:=by
 go_enter Tryz.func82,Tryz.ntmps82
 go_wp2_with fail
 all_goals
  go_ret
  refine ret_bool ?_
  simp [smlN]
  try omega
theorem yletter_any (r:Nat) (w:World):Calls Tryz.prog 108 #[.int .u8 r] w fun e w'=>e = .returned (.bool (alfN r)) ∧ w' = w:=by
 obtain ⟨G,hG⟩:∃ G,smlN r = G:=⟨_,rfl⟩
 have HG:=Lib.hid hG
 have c:=ysmall_any r w
 rw [hG] at c
 clear hG
 go_enter Tryz.func108,Tryz.ntmps108
 go_wp2_with fail
 refine c.mono ?_
 rintro e w' ⟨rfl,rfl⟩
 cases G
 all_goals
  go_wp2_with fail
  all_goals
   go_ret
   refine ret_bool ?_
   simp [alfN,HG.out]
   try omega
theorem isSign_any (r:Nat) (w:World):Calls Tryz.prog 176 #[.int .i32 r] w fun e w'=>e = .returned (.bool (sigN r)) ∧ w' = w:=by
 obtain ⟨G,hG⟩:∃ G,alfN r = G:=⟨_,rfl⟩
 have HG:=Lib.hid hG
 have c:=isLetter_any r w
 rw [hG] at c
 clear hG
 obtain ⟨D,hD⟩:∃ D,digN r = D:=⟨_,rfl⟩
 have HD:=Lib.hid hD
 have d:=isDigit_any r w
 rw [hD] at d
 clear hD
 go_enter Tryz.func176,Tryz.ntmps176
 go_wp2_with fail
 refine c.mono ?_
 rintro e w' ⟨rfl,rfl⟩
 cases G
 ·go_wp2_with fail
  refine d.mono ?_
  rintro e w' ⟨rfl,rfl⟩
  cases D
  all_goals
   go_wp2_with fail
   all_goals
    go_ret
    refine ret_bool ?_
    simp [sigN,HG.out,HD.out]
    try omega
 ·go_wp2_with fail
  go_ret
  refine ret_bool ?_
  simp [sigN,HG.out]
/-! ### how many bytes are of digits -/
def spn (d:Bool):Bs → Nat
 | []=>0
 | c :: r=>if dig c = d then spn d r + 1 else 0
theorem spn_le (d:Bool):∀ l:Bs,spn d l ≤ l.length
 | []=>Nat.le_refl _
 | c :: r=>by
  have:=spn_le d r
  unfold spn; split <;> simp <;> omega
theorem spn_take (d:Bool):∀ l:Bs,∀ c ∈ l.take (spn d l),dig c = d
 | [],c,h=>by simp [spn] at h
 | x :: r,c,h=>by
  unfold spn at h
  by_cases e:dig x = d
  ·rw [if_pos e,List.take_succ_cons] at h
   rcases List.mem_cons.1 h with rfl | h
   ·exact e
   ·exact spn_take d r c h
  ·rw [if_neg e] at h; simp at h
def headIs (d:Bool):Bs → Prop
 | []=>True
 | c :: _=>dig c = d
theorem spn_drop (d:Bool):∀ l:Bs,headIs (!d) (l.drop (spn d l))
 | []=>trivial
 | x :: r=>by
  unfold spn
  by_cases e:dig x = d
  ·rw [if_pos e,List.drop_succ_cons]; exact spn_drop d r
  ·rw [if_neg e,List.drop_zero]
   show dig x = !d
   cases d <;> cases h:dig x <;> simp_all
theorem spn_more {s:ByteArray} {d:Bool} {k N:Nat} (h:k < s.size) (hk:digN (b s k) = d) (hN:k + spn d ((li s).drop k) = N):k + 1 + spn d ((li s).drop (k + 1)) = N:=by
 obtain ⟨c,hc,hb⟩:=li_drop s k h
 rw [hc] at hN
 have:dig c = d:=by rw [dig_n,hb]; exact hk
 unfold spn at hN
 rw [if_pos this] at hN
 omega
theorem spn_stop {s:ByteArray} {d:Bool} {k N:Nat} (h:k < s.size) (hk:digN (b s k) ≠ d) (hN:k + spn d ((li s).drop k) = N):N = k:=by
 obtain ⟨c,hc,hb⟩:=li_drop s k h
 rw [hc] at hN
 have:dig c ≠ d:=by rw [dig_n,hb]; exact hk
 unfold spn at hN
 rw [if_neg this] at hN
 omega
theorem spn_end {s:ByteArray} {d:Bool} {k N:Nat} (h:¬ k < s.size) (hN:k + spn d ((li s).drop k) = N):N = k:=by
 rw [List.drop_eq_nil_of_le (by rw [li_len]; omega)] at hN
 exact hN.symm
theorem spn_jump {s:ByteArray} {N:Nat}:∀ (n k:Nat),k + n ≤ s.size → (∀ j,j < n → 128 ≤ b s (k + j)) → k + spn false ((li s).drop k) = N → k + n + spn false ((li s).drop (k + n)) = N
 | 0,_,_,_,h=>h
 | n + 1,k,h1,h2,h=>by
  have e:=spn_more (by omega) (by have:=h2 0 (by omega); rw [Nat.add_zero] at this; unfold digN; simp; omega) h
  have:=spn_jump n (k + 1) (by omega) (fun j hj=>by have:=h2 (j + 1) (by omega); rwa [show k + (j + 1) = k + 1 + j by omega] at this) e
  rwa [show k + 1 + n = k + (n + 1) by omega] at this
theorem sz_high (s:ByteArray) (i:Nat) (hb:128 ≤ b s i):∀ j,j < sz s i → 128 ≤ b s (i + j):=by
 intro j hj
 unfold sz at hj
 simp only [on_iff] at hj
 have hj4:j = 0 ∨ j = 1 ∨ j = 2 ∨ j = 3:=by
  revert hj
  repeat' split
  all_goals omega
 rcases hj4 with rfl | rfl | rfl | rfl
 ·exact hb
 all_goals
  revert hj
  repeat' split
  all_goals omega
structure Gb (B:Nat) (w w':World):Prop extends Below B w w' where
 drawn:w.drawn ≤ w'.drawn
theorem Gb.refl (B:Nat) (w:World):Gb B w w:=⟨Below.refl B w,Nat.le_refl _⟩
theorem Gb.trans {B:Nat} {a b c:World} (h:Gb B a b) (k:Gb B b c):Gb B a c:=⟨h.toBelow.trans k.toBelow,Nat.le_trans h.drawn k.drawn⟩
theorem Gb.mono {B B':Nat} {w w':World} (h:Gb B w w') (hB:B' ≤ B):Gb B' w w':=⟨h.toBelow.mono hB,h.drawn⟩
theorem Gb.drew {B:Nat} {a w:World} (h:Gb B a w):Gb B a w.drew:=⟨h.toBelow.drew,Nat.le_trans h.drawn (Nat.le_succ _)⟩
theorem Gb.alloc {B:Nat} {a w:World} (h:Gb B a w) (hB:B ≤ w.heap.size) (o:Obj):Gb B a (w.alloc o):=⟨h.toBelow.alloc hB o,h.drawn⟩
theorem Gb.iterAt {B:Nat} {a w:World} (h:Gb B a w) {k:Nat} (hk:B ≤ k) (s:ByteArray) (p:Nat):Gb B a (w.iterAt k s p):=⟨Lib.below_iterAt h.toBelow hk s p,h.drawn⟩
theorem gb_drewN (w:World):∀ n,Gb w.heap.size w (w.drewN n)
 | 0=>Gb.refl _ _
 | n + 1=>⟨⟨rfl,rfl,rfl,Nat.le_refl _,fun _ _=>rfl⟩,Nat.le_add_right _ _⟩
set_option maxRecDepth 100000 in
set_option maxHeartbeats 2000000 in
theorem span_gb (s:ByteArray) (d:Bool) (w:World) (hs:s.size ≤ 9223372036854775807) :
  Calls Tryz.prog 159 #[.string s,.bool d] w fun e w'=>e = .returned (.int .i64 (spn d (li s))) ∧ Gb w.heap.size w w':=by
 obtain ⟨G,hG⟩:∃ G,spn d (li s) = G:=⟨_,rfl⟩
 have HG:=Lib.hid hG
 rw [hG]
 clear hG
 go_enter Tryz.func159,Tryz.ntmps159
 go_wp2
 go_loopg [] s.size (fun gf wx=>∃ pos:Nat,wx.heap[w.heap.size]? = some (.stringIter s pos) ∧ Gb w.heap.size w wx ∧ Hid (pos + spn d ((li s).drop pos) = G) ∧ s.size ≤ pos + gf ∧ pos ≤ s.size)
 case atStart=>exact ⟨0,World.iter_heap w s 0,(Gb.refl _ _).alloc (Nat.le_refl _) _,(by rw [List.drop_zero,Nat.zero_add]; exact HG.out),by omega,by omega⟩
 case round =>
  obtain ⟨pos,hit,hbw,HN,hfu,hps⟩:=hrel
  by_cases hlt:pos < s.size
  ·obtain ⟨g',rfl⟩:∃ g',gk = g' + 1:=⟨gk - 1,by omega⟩
   have hnx:∀ ty,(Instr.next (.pointer (some ⟨w.heap.size,0,none⟩)) true ty).run Tryz.prog wr = _:=fun ty=>Lib.run_next_any_at wr w.heap.size s pos ty hit hlt
   obtain ⟨W,hW⟩:∃ W,wr.iterAt w.heap.size s (pos + (Utf8.decode s pos).2) = W:=⟨_,rfl⟩
   have hit2:=Lib.iterAt_heap wr w.heap.size s pos (pos + (Utf8.decode s pos).2) hit
   have hbw2:=hbw.iterAt (k:=w.heap.size) (Nat.le_refl _) s (pos + (Utf8.decode s pos).2)
   rw [hW] at hnx hit2 hbw2
   clear hW hit hbw
   by_cases hb:b s pos < 128
   ·rw [dec_low s pos hlt hb] at hnx hit2
    have hm:=fun h=>spn_more hlt h HN.out
    have ht:=fun h=>spn_stop hlt h HN.out
    obtain ⟨c,hc⟩:∃ c,b s pos = c:=⟨_,rfl⟩
    rw [hc] at hnx hb hm ht
    clear hc
    go_wp2_with fail
    refine (isDigit_any _ _).mono ?_
    rintro e w' ⟨rfl,rfl⟩
    by_cases hd:digN c = d
    ·have HM:=Lib.hid (hm hd)
     rw [hd]
     clear hm ht hd HN
     go_wp2_with fail
     go_roundg g'
     case measure=>omega
     case rel=>exact ⟨pos + 1,hit2,hbw2,HM,by omega,by omega⟩
    ·obtain rfl:=ht hd
     have hne:(digN c == d) = false:=by cases d <;> cases h:digN c <;> simp_all
     clear hm ht hd HN HG
     go_wp2_with fail
     go_ret
     exact ⟨rfl,hbw2⟩
   ·have hno:digN (b s pos) = false:=by unfold digN; simp; omega
    have hr:digN (Utf8.decode s pos).1 = false:=by
     rcases dec_high s pos hlt (by omega) with ⟨_,hd⟩ | ⟨_,_,_,hr⟩
     ·rw [hd]; decide
     ·unfold digN; simp; omega
    have hstep:∃ n,0 < n ∧ (Utf8.decode s pos).2 = n ∧ pos + n ≤ s.size ∧ ∀ j,j < n → 128 ≤ b s (pos + j):=by
     rcases dec_high s pos hlt (by omega) with ⟨_,hd⟩ | ⟨h1,h2,h3,_⟩
     ·exact ⟨1,by omega,by rw [hd],by omega,fun j hj=>by rw [show j = 0 by omega,Nat.add_zero]; omega⟩
     ·exact ⟨sz s pos,by omega,h3,h2,sz_high s pos (by omega)⟩
    obtain ⟨n,hn0,hn,hnle,hnall⟩:=hstep
    obtain ⟨R,hR⟩:∃ R,(Utf8.decode s pos).1 = R:=⟨_,rfl⟩
    rw [hR] at hnx hr
    rw [hn] at hit2
    clear hR hn
    cases d
    ·have HM:=Lib.hid (spn_jump n pos hnle hnall HN.out)
     clear HN hnall hno HG
     go_wp2_with fail
     refine (isDigit_any _ _).mono ?_
     rintro e w' ⟨rfl,rfl⟩
     rw [hr]
     go_wp2_with fail
     go_roundg g'
     case measure=>omega
     case rel=>exact ⟨pos + n,hit2,hbw2,HM,by omega,by omega⟩
    ·obtain rfl:=spn_stop hlt (by rw [hno]; simp) HN.out
     clear HN hnall hno HG
     go_wp2_with fail
     refine (isDigit_any _ _).mono ?_
     rintro e w' ⟨rfl,rfl⟩
     rw [hr]
     go_wp2_with fail
     go_ret
     exact ⟨rfl,hbw2⟩
  ·have hne:∀ ty,(Instr.next (.pointer (some ⟨w.heap.size,0,none⟩)) true ty).run Tryz.prog wr = _:=fun ty=>Lib.run_next_end_at wr w.heap.size s pos ty hit hlt
   obtain rfl:=spn_end hlt HN.out
   obtain rfl:G = s.size:=by omega
   clear HN HG
   go_wp2_with fail
   go_ret
   exact ⟨rfl,hbw⟩
end Ver
end Go.Proofs.YtmhpjjjjgakpiaaGreatDoor
namespace Go.Proofs.YtmhpjjjjgakpiaaGreatDoor
set_option linter.unusedSimpArgs false
set_option linter.unusedVariables false
namespace Rl
open Ver (Bs)
abbrev At:=Bs × Int × Bs
def wh (c:UInt8):Bool:=decide (c = 32) || decide (c = 9)
def sg (c:UInt8):Bool:=decide (c = 60) || decide (c = 61) || decide (c = 62)
def mk (c:UInt8):Bool:=decide (c = 44) || decide (c = 124) || decide (c = 40) || decide (c = 41)
def wd (c:UInt8):Bool:=!wh c && !sg c && !mk c
def lds (c:UInt8):Bool:=(decide (97 ≤ c) && decide (c ≤ 122)) || (decide (48 ≤ c) && decide (c ≤ 57))
def mrs (c:UInt8):Bool:=decide (c = 43) || decide (c = 45) || decide (c = 46)
def nch (c:UInt8):Bool:=lds c || mrs c
def nmB:Bs → Bool
 | []=>false
 | c :: r=>decide (1 ≤ r.length ∧ r.length ≤ 23) && lds c && r.all nch
def isV (v:Bs):Bool:=(Ver.parse v).isSome
def skip (l:Bs):Bs:=l.dropWhile wh
def relN (s:Bs):Int:=if s = [60,60] then 1 else if s = [60,61] then 2 else if s = [61] then 3 else if s = [62,61] then 4 else if s = [62,62] then 5 else 0
def sgnN (r:Int):Bs:=if r = 1 then [60,60] else if r = 2 then [60,61] else if r = 3 then [61] else if r = 4 then [62,61] else if r = 5 then [62,62] else []
def may (a:At):Bool:=nmB a.1 && (if a.2.1 = 0 then a.2.2.isEmpty else decide (1 ≤ a.2.1 ∧ a.2.1 ≤ 5) && isV a.2.2)
def tk (c:UInt8):Bs → Option Bs
 | []=>none
 | x :: r=>if x = c then some (skip r) else none
def atom (l:Bs):Option (At × Bs) :=
 match tk 40 (skip (l.dropWhile wd)) with
 | none=>if may (l.takeWhile wd,0,[]) = true then some ((l.takeWhile wd,0,[]),skip (l.dropWhile wd)) else none
 | some l2 =>
  if relN (l2.takeWhile sg) = 0 then none else
  match tk 41 (skip ((skip (l2.dropWhile sg)).dropWhile wd)) with
  | none=>none
  | some l5=>if may (l.takeWhile wd,relN (l2.takeWhile sg),(skip (l2.dropWhile sg)).takeWhile wd) = true then some ((l.takeWhile wd,relN (l2.takeWhile sg),(skip (l2.dropWhile sg)).takeWhile wd),l5) else none
section
variable {α:Type}
end
abbrev Pv:=Bs × Bs
def prv (e:Except Int (At × Bs)):Except Int (Pv × Bs):=match e with
 | .error _=>.error 3
 | .ok (a,r)=>if a.2.1 = 0 ∨ a.2.1 = 3 then .ok ((a.1,a.2.2),r) else .error 3
/-! ### the same -/
def Stuck (r:Bs):Prop:=r ≠ [] ∧ tk 44 r = none ∧ tk 124 r = none
def R {α:Type} (c y:Except Int (α × Bs)):Prop:=c = y ∨ (y = .error 3 ∧ ∃ x r,c = .ok (x,r) ∧ Stuck r)
/-! ### one atom -/
def one (s:Bs):Option At:=match atom (skip s) with
 | some (a,[])=>some a
 | _=>none
end Rl
end Go.Proofs.YtmhpjjjjgakpiaaGreatDoor
namespace Go.Proofs.YtmhpjjjjgakpiaaGreatDoor
set_option linter.unusedSimpArgs false
set_option linter.unusedVariables false
namespace Rl
open Ver (Bs)
def pvA (p:Pv):At:=(p.1,if p.2 = [] then 0 else 3,p.2)
end Rl
end Go.Proofs.YtmhpjjjjgakpiaaGreatDoor

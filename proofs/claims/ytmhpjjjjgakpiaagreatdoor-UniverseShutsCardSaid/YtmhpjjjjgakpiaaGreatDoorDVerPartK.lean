/-
Signs held against signs, numbers against numbers; the library's Or of some numbers. The library's Or of some numbers; rows of digits by their numbers. Part, and what a round of it takes.
-/
import Derived.Test.YtmhpjjjjgakpiaaGreatDoorDRelDef
import Derived.Test.YtmhpjjjjgakpiaaGreatDoorShelf
import Derived.StillTail
import Derived.StillTailTactics
namespace Go.Proofs.YtmhpjjjjgakpiaaGreatDoor
open Go.RowKit
set_option linter.unusedSimpArgs false
set_option linter.unusedVariables false
namespace Ver
open Txt (b b_eq b_lt)
def wtN (c:Nat):Nat:=if c = 126 then 0 else if alfN c then 2 + c else 258 + c
def wt:Bs → Nat
 | []=>1
 | c :: _=>wtN c.toNat
def rk0:Bs → Int
 | []=>0
 | c :: _=>rk c
theorem wt_rk (x y:Bs):Lib.compareInt (wt x) (wt y) = sgn (rk0 x) (rk0 y):=by
 have h:∀ c:UInt8,(c.toNat = 126 ∧ rk c = -1 ∧ wtN c.toNat = 0) ∨ (c.toNat ≠ 126 ∧ c.toNat < 256 ∧ alfN c.toNat = true ∧ rk c = 1 + c.toNat ∧ wtN c.toNat = 2 + c.toNat) ∨ (c.toNat ≠ 126 ∧ c.toNat < 256 ∧ rk c = 300 + c.toNat ∧ wtN c.toNat = 258 + c.toNat):=fun c=>by
  have hl:=UInt8.toNat_lt c
  unfold rk wtN
  rw [alf_n]
  by_cases h1:c = 126
  ·subst h1; left; decide
  ·have h2:c.toNat ≠ 126:=fun e=>h1 (UInt8.toNat_inj.1 (by simpa using e))
   rw [if_neg h1,if_neg h2]
   by_cases h3:alfN c.toNat = true
   ·rw [if_pos h3,if_pos h3]; right; left; exact ⟨h2,by omega,h3,rfl,rfl⟩
   ·rw [if_neg h3,if_neg h3]; right; right; exact ⟨h2,by omega,rfl,rfl⟩
 have h':∀ x:Bs,(rk0 x = -1 ∧ wt x = 0) ∨ (rk0 x = 0 ∧ wt x = 1) ∨ (1 ≤ rk0 x ∧ rk0 x < 257 ∧ (wt x:Int) = rk0 x + 1) ∨ (300 ≤ rk0 x ∧ (wt x:Int) = rk0 x - 42):=fun x=>by
  cases x with
  | nil=>right; left; exact ⟨rfl,rfl⟩
  | cons c x =>
   rcases h c with ⟨_,r,k⟩ | ⟨_,l,_,r,k⟩ | ⟨_,l,r,k⟩
   ·left; exact ⟨r,k⟩
   ·right; right; left
    show 1 ≤ rk c ∧ rk c < 257 ∧ ((wtN c.toNat:Nat):Int) = rk c + 1
    omega
   ·right; right; right
    show 300 ≤ rk c ∧ ((wtN c.toNat:Nat):Int) = rk c - 42
    omega
 have hx:=h' x
 have hy:=h' y
 clear h h'
 generalize wt x = a at *
 generalize wt y = c at *
 generalize rk0 x = p at *
 generalize rk0 y = q at *
 unfold Lib.compareInt sgn
 (repeat' split) <;> omega
theorem lex_map_step (x y:Bs) (hx:x ≠ [] ∨ y ≠ []):lex (x.map rk) (y.map rk) = orr (sgn (rk0 x) (rk0 y)) (lex (x.tail.map rk) (y.tail.map rk)):=by
 cases x with
 | nil =>
  cases y with
  | nil=>simp at hx
  | cons d y=>rfl
 | cons c x =>
  cases y with
  | nil=>rfl
  | cons d y=>rfl
theorem rk0_same {x y:Bs} (h:sgn (rk0 x) (rk0 y) = 0):x = [] ↔ y = []:=by
 cases x with
 | nil =>
  cases y with
  | nil=>simp
  | cons d y=>exact absurd h (sgn_ne (Ne.symm (rk_ne d)))
 | cons c x =>
  cases y with
  | nil=>exact absurd h (sgn_ne (rk_ne c))
  | cons d y=>simp
theorem orr_of_ne {p q:Int} {G:Int} (h:orr p q = G) (hp:p ≠ 0):G = p:=by rw [orr_ne hp] at h; exact h.symm
theorem orr_of_zero {p q:Int} {G:Int} (h:orr p q = G) (hp:p = 0):q = G:=by subst hp; rwa [orr_zero] at h
theorem tail_drop (l:Bs) (i:Nat):(l.drop i).tail = l.drop (i + 1):=by rw [← List.drop_one,List.drop_drop]
set_option maxRecDepth 100000 in
theorem weight_any (s:ByteArray) (i:Nat) (w:World) (hs:s.size ≤ 9223372036854775807) (hi:i ≤ s.size) :
  Calls Tryz.prog 182 #[.string s,.int .i64 i] w fun e w'=>e = .returned (.int .i64 (wt ((li s).drop i))) ∧ w' = w:=by
 obtain ⟨G,hG⟩:∃ G,wt ((li s).drop i) = G:=⟨_,rfl⟩
 have HG:=Lib.hid hG
 rw [hG]
 clear hG
 by_cases h:i = s.size
 ·have hG:G = 1:=by rw [← HG.out,List.drop_eq_nil_of_le (by rw [li_len]; omega)]; rfl
  subst h
  subst hG
  clear HG
  go_enter Tryz.func182,Tryz.ntmps182
  go_wp2_with fail
  go_ret
  exact ⟨rfl,rfl⟩
 ·have hlt:i < s.size:=by omega
  have hlt':(i:Int) < (s.size:Int):=by omega
  have hne:¬ (i:Int) = (s.size:Int):=by omega
  have hG:G = wtN (b s i):=by
   obtain ⟨c,hc,hb⟩:=li_drop s i hlt
   rw [← HG.out,hc,← hb]; rfl
  have hbc:=b_eq s i hlt
  have hbl:=b_lt s i
  obtain ⟨c,hc⟩:∃ c,b s i = c:=⟨_,rfl⟩
  rw [hc] at hbc hbl hG
  clear hc HG
  by_cases h126:c = 126
  ·subst h126
   have:wtN 126 = 0:=by decide
   rw [this] at hG
   subst hG
   go_enter Tryz.func182,Tryz.ntmps182
   go_wp2_with fail
   go_ret
   exact ⟨rfl,rfl⟩
  ·have h126':¬ (c:Int) = 126:=by omega
   unfold wtN at hG
   rw [if_neg h126] at hG
   go_enter Tryz.func182,Tryz.ntmps182
   go_wp2_with fail
   refine (isLetter_any _ _).mono ?_
   rintro e w' ⟨rfl,rfl⟩
   cases ha:alfN c
   ·rw [ha,if_neg (by simp)] at hG
    go_wp2_with fail
    go_ret
    subst hG
    exact ⟨by first | rfl | (congr 2; omega),rfl⟩
   ·rw [ha,if_pos rfl] at hG
    go_wp2_with fail
    go_ret
    subst hG
    exact ⟨by first | rfl | (congr 2; omega),rfl⟩
set_option maxRecDepth 100000 in
set_option maxHeartbeats 2000000 in
theorem compareSigns_any (s t:ByteArray) (w:World) (hs:s.size ≤ 9223372036854775807) (ht:t.size ≤ 9223372036854775807) :
  Calls Tryz.prog 160 #[.string s,.string t] w fun e w'=>e = .returned (.int .i64 (lex ((li s).map rk) ((li t).map rk))) ∧ w' = w:=by
 obtain ⟨G,hG⟩:∃ G,lex ((li s).map rk) ((li t).map rk) = G:=⟨_,rfl⟩
 have HG:=Lib.hid hG
 rw [hG]
 clear hG
 go_enter Tryz.func160,Tryz.ntmps160
 go_wp2
 go_loopg [12] s.size (fun gf s12 wx=>∃ pos:Nat,s12 = .int .i64 pos ∧ wx = w ∧ Hid (lex (((li s).drop pos).map rk) (((li t).drop pos).map rk) = G) ∧ s.size ≤ pos + gf ∧ pos ≤ s.size ∧ pos ≤ t.size)
 case atStart=>exact ⟨0,rfl,rfl,(by rw [List.drop_zero,List.drop_zero]; exact HG.out),by omega,by omega,by omega⟩
 case round =>
  obtain ⟨pos,rfl,rfl,HN,hfu,hps,hpt⟩:=hrel
  by_cases hlt:pos < s.size ∨ pos < t.size
  ·have h1:(li s).drop pos ≠ [] ∨ (li t).drop pos ≠ []:=by
    rcases hlt with h | h
    ·left; obtain ⟨c,hc,_⟩:=li_drop s pos h; rw [hc]; simp
    ·right; obtain ⟨c,hc,_⟩:=li_drop t pos h; rw [hc]; simp
   have h2:=lex_map_step _ _ h1
   rw [HN.out,tail_drop,tail_drop] at h2
   have c1:=weight_any s pos wr hs hps
   have c2:=weight_any t pos wr ht hpt
   have hsame:sgn (rk0 ((li s).drop pos)) (rk0 ((li t).drop pos)) = 0 → pos < s.size ∧ pos < t.size:=fun h=>by
    have:=rk0_same h
    have e1:(li s).drop pos = [] ↔ s.size ≤ pos:=by rw [List.drop_eq_nil_iff,li_len]
    have e2:(li t).drop pos = [] ↔ t.size ≤ pos:=by rw [List.drop_eq_nil_iff,li_len]
    rw [e1,e2] at this
    omega
   have hc:=wt_rk ((li s).drop pos) ((li t).drop pos)
   obtain ⟨a,ha⟩:∃ a,wt ((li s).drop pos) = a:=⟨_,rfl⟩
   obtain ⟨d,hd⟩:∃ d,wt ((li t).drop pos) = d:=⟨_,rfl⟩
   have c3:=Tryz.cmp_Compare_int a d wr
   rw [ha] at c1 hc
   rw [hd] at c2 hc
   rw [hc] at c3
   obtain ⟨x,hx⟩:∃ x,sgn (rk0 ((li s).drop pos)) (rk0 ((li t).drop pos)) = x:=⟨_,rfl⟩
   rw [hx] at c3 h2 hsame
   have H2:=Lib.hid h2
   clear hx hc ha hd h2 h1 HN HG
   have hmax:(pos:Int) < max (s.size:Int) (t.size:Int):=by omega
   go_wp2_with fail
   refine c1.mono ?_
   rintro e w' ⟨rfl,rfl⟩
   go_wp2_with fail
   refine c2.mono ?_
   rintro e w' ⟨rfl,rfl⟩
   go_wp2_with fail
   refine c3.mono ?_
   rintro e w' ⟨rfl,rfl⟩
   by_cases hz:x = 0
   ·subst hz
    obtain ⟨k1,k2⟩:=hsame rfl
    obtain ⟨g',rfl⟩:∃ g',gk = g' + 1:=⟨gk - 1,by omega⟩
    have HM:=Lib.hid (orr_of_zero H2.out.symm rfl)
    clear hsame H2 c1 c2 c3
    go_wp2_with fail
    go_roundg g'
    case measure=>omega
    case rel=>exact ⟨pos + 1,by go_num,rfl,HM,by omega,by omega,by omega⟩
   ·obtain rfl:=orr_of_ne H2.out.symm hz
    clear hsame H2 c1 c2 c3
    go_wp2_with fail
    go_ret
    exact ⟨rfl,rfl⟩
  ·have hG:G = 0:=by
    rw [← HN.out,List.drop_eq_nil_of_le (by rw [li_len]; omega),List.drop_eq_nil_of_le (by rw [li_len]; omega)]
    rfl
   subst hG
   have hmax:¬ (pos:Int) < max (s.size:Int) (t.size:Int):=by omega
   clear HG HN
   go_wp2_with fail
   go_ret
   exact ⟨rfl,rfl⟩
end Ver
end Go.Proofs.YtmhpjjjjgakpiaaGreatDoor
namespace Go.Proofs.YtmhpjjjjgakpiaaGreatDoor
open Go.RowKit
set_option linter.unusedSimpArgs false
set_option linter.unusedVariables false
namespace Ver
open Txt (b b_eq b_lt)
def orl:List Int → Int
 | []=>0
 | x :: r=>orr x (orl r)
set_option maxRecDepth 100000 in
theorem cmpOr_any (xs:List Int) (k:Nat) (w:World) (hl:xs.length ≤ 100) (hc:∀ i,i < xs.length → w.cell? ⟨k,i,none⟩ = some (.int .i64 (xs.getD i 0))) :
  Calls Tryz.prog 99 #[.slice (some ⟨k,0,none⟩) xs.length xs.length] w fun e w'=>e = .returned (.int .i64 (orl xs)) ∧ w' = w:=by
 obtain ⟨G,hG⟩:∃ G,orl xs = G:=⟨_,rfl⟩
 have HG:=Lib.hid hG
 have HC:=Lib.hid hc
 rw [hG]
 clear hG hc
 obtain ⟨n,hn⟩:∃ n,xs.length = n:=⟨_,rfl⟩
 have HL:=Lib.hid hn
 rw [hn] at hl ⊢
 clear hn
 go_enter Tryz.func99,Tryz.ntmps99
 go_wp2
 go_loopg [8] n (fun gf s8 wx=>∃ pos:Nat,s8 = .int .i64 pos ∧ wx = w ∧ Hid (orl (xs.drop pos) = G) ∧ n ≤ pos + gf ∧ pos ≤ n)
 case atStart=>exact ⟨0,rfl,rfl,HG.out,by omega,by omega⟩
 case round =>
  obtain ⟨pos,rfl,rfl,HN,hfu,hps⟩:=hrel
  by_cases hlt:pos < n
  ·have hlt':(pos:Int) < (n:Int):=by omega
   have hlx:pos < xs.length:=by rw [HL.out]; exact hlt
   have hcell:=HC.out pos hlx
   have hd:xs.drop pos = xs.getD pos 0 :: xs.drop (pos + 1):=by
    rw [List.drop_eq_getElem_cons hlx,List.getD_eq_getElem?_getD,List.getElem?_eq_getElem hlx]; rfl
   have hN:=HN.out
   rw [hd] at hN
   obtain ⟨x,hx⟩:∃ x,xs.getD pos 0 = x:=⟨_,rfl⟩
   rw [hx] at hN hcell
   have HN2:=Lib.hid hN
   clear hx hd hN HN
   obtain ⟨g',rfl⟩:∃ g',gk = g' + 1:=⟨gk - 1,by omega⟩
   by_cases hz:x = 0
   ·subst hz
    have HM:=Lib.hid (orr_of_zero HN2.out rfl)
    clear HN2
    go_wp2_with fail
    go_roundg g'
    case measure=>omega
    case rel=>exact ⟨pos + 1,by go_num,rfl,HM,by omega,by omega⟩
   ·obtain rfl:=orr_of_ne HN2.out hz
    clear HN2 HG
    go_wp2_with fail
    go_ret
    exact ⟨rfl,rfl⟩
  ·have hge:¬ (pos:Int) < (n:Int):=by omega
   have hG:G = 0:=by
    rw [← HN.out,List.drop_eq_nil_of_le (by rw [HL.out]; omega)]; rfl
   subst hG
   clear HN HG
   go_wp2_with fail
   go_ret
   exact ⟨rfl,rfl⟩
theorem trimLeft_strip:∀ l:Bs,Lib.trimLeftB l 48 = strip l
 | []=>by first | rfl | simp [Lib.trimLeftB,strip]
 | c :: r=>by
  have:=trimLeft_strip r
  unfold strip
  by_cases h:c = 48
  ·subst h; rw [if_pos rfl,← this]; first | rfl | simp [Lib.trimLeftB]
  ·rw [if_neg h]; first | rfl | simp [Lib.trimLeftB,h]
def S (l:Bs):ByteArray:=⟨l.toArray⟩
theorem S_li (l:Bs):li (S l) = l:=by simp [S]
theorem S_of {t:ByteArray} {l:Bs} (h:li t = l):t = S l:=by
 subst h
 apply ByteArray.ext
 simp [S]
theorem S_self (t:ByteArray):S (li t) = t:=(S_of rfl).symm
theorem S_size (l:Bs):(S l).size = l.length:=by rw [← li_len,S_li]
theorem cmp_sgn (x y:Int):Lib.compareInt x y = sgn x y:=by
 unfold Lib.compareInt sgn
 (repeat' split) <;> omega
set_option maxRecDepth 100000 in
theorem compareNumbers_gb (s t:ByteArray) (w:World) (hs:s.size ≤ 9223372036854775807) (ht:t.size ≤ 9223372036854775807) :
  Calls Tryz.prog 125 #[.string s,.string t] w fun e w'=>e = .returned (.int .i64 (numB (li s) (li t))) ∧ Gb w.heap.size w w':=by
 have c1:=Tryz.strings_TrimLeft_one s 48 (by decide) w
 have c2:=Tryz.strings_TrimLeft_one t 48 (by decide) w
 rw [trimLeft_strip] at c1 c2
 have e1:(S (strip (li s))).size = (strip (li s)).length:=S_size _
 have e2:(S (strip (li t))).size = (strip (li t)).length:=S_size _
 have c3:=Tryz.cmp_Compare_int ((strip (li s)).length:Nat) ((strip (li t)).length:Nat) w
 rw [cmp_sgn,← e1,← e2] at c3
 have c4:=Tryz.strings_Compare (S (strip (li s))) (S (strip (li t))) w
 rw [show (S (strip (li s))).data.toList = strip (li s) from S_li _,show (S (strip (li t))).data.toList = strip (li t) from S_li _] at c4
 have hnum:numB (li s) (li t) = orr (sgn ((S (strip (li s))).size:Int) ((S (strip (li t))).size:Int)) (Lib.compareBytes (strip (li s)) (strip (li t))):=by
  rw [e1,e2]; rfl
 rw [hnum]
 clear hnum e1 e2
 change Calls _ _ _ _ fun e w'=>e = .returned (.string (S (strip (li s)))) ∧ w' = w at c1
 change Calls _ _ _ _ fun e w'=>e = .returned (.string (S (strip (li t)))) ∧ w' = w at c2
 generalize Lib.compareBytes (strip (li s)) (strip (li t)) = q at *
 generalize S (strip (li s)) = x at *
 generalize S (strip (li t)) = y at *
 generalize sgn (x.size:Int) (y.size:Int) = p at *
 go_enter Tryz.func125,Tryz.ntmps125
 go_wp2_with fail
 refine c1.mono ?_
 rintro e w' ⟨rfl,rfl⟩
 go_wp2_with fail
 refine c2.mono ?_
 rintro e w' ⟨rfl,rfl⟩
 go_wp2_with fail
 refine c3.mono ?_
 rintro e w' ⟨rfl,rfl⟩
 go_wp2_with fail
 refine c4.mono ?_
 rintro e w' ⟨rfl,rfl⟩
 clear c1 c2 c3 c4
 have c5:=cmpOr_any [p,q] w'.heap.size (w'.alloc (.cells #[.int .i64 p,.int .i64 q] 3)) (by simp) (by
  intro i hi
  rw [World.cell?_alloc_at _ _ _ _ (by simp)]
  have:i = 0 ∨ i = 1:=by simp at hi; omega
  rcases this with rfl | rfl <;> rfl)
 have e:orl [p,q] = orr p q:=by
  show orr p (orr q 0) = _
  unfold orr; (repeat' split) <;> omega
 rw [e] at c5
 go_wp2_with fail
 refine c5.mono ?_
 rintro e w2 ⟨rfl,rfl⟩
 go_wp2_with fail
 go_ret
 exact ⟨rfl,(Gb.refl _ _).alloc (Nat.le_refl _) _⟩
end Ver
end Go.Proofs.YtmhpjjjjgakpiaaGreatDoor
namespace Go.Proofs.YtmhpjjjjgakpiaaGreatDoor
open Go.RowKit
set_option linter.unusedSimpArgs false
set_option linter.unusedVariables false
namespace Ver
open Txt (b b_eq b_lt)
def sigs (l:Bs):Bs:=l.take (spn false l)
def behind (l:Bs):Bs:=l.drop (spn false l)
def nums (l:Bs):Bs:=(behind l).take (spn true (behind l))
def rest (l:Bs):Bs:=(behind l).drop (spn true (behind l))
theorem pieces (l:Bs):l = sigs l ++ (nums l ++ rest l):=by
 unfold sigs nums rest
 rw [List.take_append_drop]
 unfold behind
 rw [List.take_append_drop]
theorem nums_nil {l:Bs} (h:nums l = []):rest l = []:=by
 unfold nums at h
 have h0:spn true (behind l) = 0:=by
  have:=spn_le true (behind l)
  have h2:=congrArg List.length h
  rw [List.length_take,List.length_nil] at h2
  omega
 unfold rest
 rw [h0,List.drop_zero]
 have h1:=spn_drop false l
 change headIs true (behind l) at h1
 cases hb:behind l with
 | nil=>rfl
 | cons c r =>
  rw [hb] at h0 h1
  have h1':dig c = true:=h1
  simp [spn,h1'] at h0
theorem rest_head (l:Bs):headNo dig (rest l):=by
 have h:=spn_drop true (behind l)
 change headIs false (rest l) at h
 cases hb:rest l with
 | nil=>trivial
 | cons c r=>rw [hb] at h; exact h
theorem part_step (x y:Bs):part x y = orr (lex ((sigs x).map rk) ((sigs y).map rk)) (orr (numB (nums x) (nums y)) (part (rest x) (rest y))):=by
 have hd:∀ l:Bs,∀ c ∈ nums l,dig c = true:=fun l=>spn_take true (behind l)
 have hs:∀ l:Bs,∀ c ∈ sigs l,dig c = false:=fun l=>spn_take false l
 rw [num_val (hd x) (hd y)]
 have:=part_round (sigs x) (nums x) (rest x) (sigs y) (nums y) (rest y) (hs x) (hd x) (rest_head x) nums_nil (hs y) (hd y) (rest_head y) nums_nil
 rwa [← pieces,← pieces] at this
theorem rest_le (l:Bs):(rest l).length ≤ l.length:=by
 unfold rest behind
 rw [List.length_drop,List.length_drop]; omega
theorem rest_lt {l:Bs} (h:l ≠ []):(rest l).length < l.length:=by
 unfold rest
 rw [List.length_drop]
 have h2:(behind l).length = l.length - spn false l:=by unfold behind; rw [List.length_drop]
 have h1:=spn_drop false l
 change headIs true (behind l) at h1
 have hl:=spn_le false l
 have h0:0 < l.length:=List.length_pos_iff.2 h
 cases hb:behind l with
 | nil=>rw [hb] at h2; simp at h2 ⊢; omega
 | cons c r =>
  rw [hb] at h1 h2
  have h1':dig c = true:=h1
  have:spn true (c :: r) = spn true r + 1:=by rw [spn,if_pos h1']
  rw [this]
  simp only [List.length_cons] at h2 ⊢
  omega
theorem empty_is {s:ByteArray} (h:s.size = 0):s.toList.isEmpty = true ∧ li s = []:=by
 have:li s = []:=List.eq_nil_of_length_eq_zero (by rw [li_len,h])
 rw [Lib.toList_data]
 exact ⟨by rw [show s.data.toList = [] from this]; rfl,this⟩
theorem empty_no {s:ByteArray} (h:s.size ≠ 0):s.toList.isEmpty = false ∧ li s ≠ []:=by
 have:li s ≠ []:=fun e=>h (by rw [← li_len,e]; rfl)
 rw [Lib.toList_data]
 refine ⟨?_,this⟩
 cases hq:s.data.toList with
 | nil=>exact absurd hq this
 | cons _ _=>rfl
theorem slice_sigs (s:ByteArray):li (s.extract 0 (spn false (li s))) = sigs (li s):=li_ext_zero _ _ (by rw [← li_len]; exact spn_le _ _)
theorem slice_behind (s:ByteArray):li (s.extract (spn false (li s)) s.size) = behind (li s):=li_ext_end _ _
theorem below_drewN (w:World):∀ n,Below w.heap.size w (w.drewN n)
 | 0=>Below.refl _ _
 | n + 1=>⟨rfl,rfl,rfl,Nat.le_refl _,fun _ _=>rfl⟩
set_option maxRecDepth 100000 in
set_option maxHeartbeats 4000000 in
theorem part_gb (s t:ByteArray) (w:World) (hs:s.size ≤ 4611686018427387904) (ht:t.size ≤ 4611686018427387904) :
  Calls Tryz.prog 126 #[.string s,.string t] w fun e w'=>e = .returned (.int .i64 (part (li s) (li t))) ∧ Gb w.heap.size w w':=by
 obtain ⟨G,hG⟩:∃ G,part (li s) (li t) = G:=⟨_,rfl⟩
 have HG:=Lib.hid hG
 rw [hG]
 clear hG
 go_enter Tryz.func126,Tryz.ntmps126
 go_wp2
 go_loopg [0,1] (s.size + t.size) (fun gf s0 s1 wx=>∃ x y:ByteArray,s0 = .string x ∧ s1 = .string y ∧ Gb w.heap.size w wx ∧ Hid (part (li x) (li y) = G) ∧ x.size + y.size ≤ gf ∧ x.size ≤ s.size ∧ y.size ≤ t.size)
 case atStart=>exact ⟨s,t,rfl,rfl,Gb.refl _ _,HG.out,by omega,by omega,by omega⟩
 case round =>
  obtain ⟨x,y,rfl,rfl,hbw,HN,hfu,hx,hy⟩:=hrel
  by_cases h0:x.size = 0 ∧ y.size = 0
  ·obtain ⟨e1,e2⟩:=empty_is h0.1
   obtain ⟨e3,e4⟩:=empty_is h0.2
   have hG:G = 0:=by rw [← HN.out,e2,e4]; rfl
   subst hG
   clear HN HG e2 e4 h0
   go_wp2_with fail
   go_ret
   exact ⟨rfl,hbw⟩
  ·have c1:=fun w=>span_gb x false w (by omega)
   have c2:=fun w=>span_gb y false w (by omega)
   have l1:spn false (li x) ≤ x.size:=by rw [← li_len]; exact spn_le _ _
   have l2:spn false (li y) ≤ y.size:=by rw [← li_len]; exact spn_le _ _
   have c3:=fun w=>compareSigns_any (x.extract 0 (spn false (li x))) (y.extract 0 (spn false (li y))) w (by simp [ByteArray.size_extract]; omega) (by simp [ByteArray.size_extract]; omega)
   simp only [slice_sigs] at c3
   have b1:=slice_behind x
   have b2:=slice_behind y
   have z1:(x.extract (spn false (li x)) x.size).size = x.size - spn false (li x):=by simp [ByteArray.size_extract]
   have z2:(y.extract (spn false (li y)) y.size).size = y.size - spn false (li y):=by simp [ByteArray.size_extract]
   have c4:=fun w=>span_gb (x.extract (spn false (li x)) x.size) true w (by omega)
   have c5:=fun w=>span_gb (y.extract (spn false (li y)) y.size) true w (by omega)
   have l4:spn true (behind (li x)) ≤ x.size - spn false (li x):=by rw [← z1,← li_len,b1]; exact spn_le _ _
   have l5:spn true (behind (li y)) ≤ y.size - spn false (li y):=by rw [← z2,← li_len,b2]; exact spn_le _ _
   have n1:=li_ext_zero (x.extract (spn false (li x)) x.size) (spn true (behind (li x))) (by omega)
   have n2:=li_ext_zero (y.extract (spn false (li y)) y.size) (spn true (behind (li y))) (by omega)
   have r1:=li_ext_end (x.extract (spn false (li x)) x.size) (spn true (behind (li x)))
   have r2:=li_ext_end (y.extract (spn false (li y)) y.size) (spn true (behind (li y)))
   rw [b1] at n1 r1
   rw [b2] at n2 r2
   rw [b1] at c4
   rw [b2] at c5
   have hstep:=part_step (li x) (li y)
   rw [HN.out] at hstep
   have c6:=fun w=>compareNumbers_gb ((x.extract (spn false (li x)) x.size).extract 0 (spn true (behind (li x)))) ((y.extract (spn false (li y)) y.size).extract 0 (spn true (behind (li y)))) w (by simp [ByteArray.size_extract]; omega) (by simp [ByteArray.size_extract]; omega)
   rw [n1,n2] at c6
   change ∀ w,Calls _ _ _ _ fun e w'=>e = .returned (.int .i64 (numB (nums (li x)) (nums (li y)))) ∧ Gb w.heap.size w w' at c6
   change _ = rest (li x) at r1
   change _ = rest (li y) at r2
   have hlen:(rest (li x)).length + (rest (li y)).length < x.size + y.size:=by
    have a1:=rest_le (li x)
    have a2:=rest_le (li y)
    by_cases hx0:x.size = 0
    ·have:=rest_lt (empty_no (s:=y) (by omega)).2
     rw [li_len] at a1 a2 this
     omega
    ·have:=rest_lt (empty_no hx0).2
     rw [li_len] at a1 a2 this
     omega
   have hsel:x.toList.isEmpty = false ∨ (x.toList.isEmpty = true ∧ y.toList.isEmpty = false):=by
    by_cases hx0:x.size = 0
    ·exact .inr ⟨(empty_is hx0).1,(empty_no (by omega)).1⟩
    ·exact .inl (empty_no hx0).1
   clear n1 n2 b1 b2 HN HG
   have HR1:=Lib.hid r1
   have HR2:=Lib.hid r2
   have HS:=Lib.hid hstep
   have hrs1:((x.extract (spn false (li x)) x.size).extract (spn true (behind (li x))) (x.extract (spn false (li x)) x.size).size).size = (rest (li x)).length:=by rw [← r1,li_len]
   have hrs2:((y.extract (spn false (li y)) y.size).extract (spn true (behind (li y))) (y.extract (spn false (li y)) y.size).size).size = (rest (li y)).length:=by rw [← r2,li_len]
   have HRS1:=Lib.hid hrs1
   have HRS2:=Lib.hid hrs2
   have hle1:(rest (li x)).length ≤ x.size:=by rw [← li_len]; exact rest_le _
   have hle2:(rest (li y)).length ≤ y.size:=by rw [← li_len]; exact rest_le _
   clear r1 r2 hstep hrs1 hrs2
   rw [z1] at HR1 HRS1 
   rw [z2] at HR2 HRS2
   generalize spn true (behind (li x)) = i2 at *
   generalize spn true (behind (li y)) = j2 at *
   generalize spn false (li x) = i1 at *
   generalize spn false (li y) = j1 at *
   generalize numB (nums (li x)) (nums (li y)) = p2 at *
   generalize lex ((sigs (li x)).map rk) ((sigs (li y)).map rk) = p1 at *
   generalize (rest (li x)).length = m1 at *
   generalize (rest (li y)).length = m2 at *
   generalize rest (li x) = q1 at *
   generalize rest (li y) = q2 at *
   have l1':(i1:Int) ≤ x.size:=by omega
   have l2':(j1:Int) ≤ y.size:=by omega
   have l4':(i2:Int) ≤ (x.extract i1 x.size).size:=by omega
   have l5':(j2:Int) ≤ (y.extract j1 y.size).size:=by omega
   obtain ⟨g',rfl⟩:∃ g',gk = g' + 1:=⟨gk - 1,by omega⟩
   rcases hsel with he | ⟨he1,he2⟩
   all_goals
    go_wp2_with fail
    refine (c1 _).mono ?_
    rintro e w1 ⟨rfl,k1⟩
    go_wp2_with fail
    refine (c2 _).mono ?_
    rintro e w2 ⟨rfl,k2⟩
    have k2':=hbw.trans ((k1.trans (k2.mono k1.size)).mono hbw.size)
    go_wp2_with fail
    go_still_tail 6,(by kernel_rfl)
    change wpList _ _ _ _ _ w2.drew
    have k3':Gb w.heap.size w w2.drew:=k2'.trans ((Gb.refl _ _).drew.mono k2'.size)
    generalize w2.drew = wd at *
    go_wp2_with fail
    refine (c3 _).mono ?_
    rintro e w3 ⟨rfl,rfl⟩
    by_cases hp1:p1 = 0
    ·subst hp1
     have HS2:=Lib.hid (orr_of_zero HS.out.symm rfl)
     clear HS
     go_wp2_with fail
     go_quiet (fail)
     have kf':Gb w.heap.size w (w3.drewN nq):=k3'.trans ((gb_drewN _ _).mono k3'.size)
     generalize w3.drewN nq = wf at *
     go_wp2_with fail
     refine (c4 _).mono ?_
     rintro e w4 ⟨rfl,k4⟩
     go_wp2_with fail
     refine (c5 _).mono ?_
     rintro e w5 ⟨rfl,k5⟩
     have k5':=kf'.trans ((k4.trans (k5.mono k4.size)).mono kf'.size)
     go_wp2_with fail
     go_still_tail 6,(by kernel_rfl)
     change wpList _ _ _ _ _ w5.drew
     have kg':Gb w.heap.size w w5.drew:=k5'.trans ((Gb.refl _ _).drew.mono k5'.size)
     generalize w5.drew = wg at *
     go_wp2_with fail
     refine (c6 _).mono ?_
     rintro e w6 ⟨rfl,k6⟩
     have k6':=kg'.trans (k6.mono kg'.size)
     by_cases hp2:p2 = 0
     ·subst hp2
      have HS3:=Lib.hid (orr_of_zero HS2.out rfl)
      clear HS2
      go_wp2_with fail
      go_quiet (fail)
      have kh':Gb w.heap.size w (w6.drewN nq):=k6'.trans ((gb_drewN _ _).mono k6'.size)
      generalize w6.drewN nq = wh at *
      go_wp2_with fail
      go_roundg g'
      case measure=>omega
      case rel=>exact ⟨_,_,rfl,rfl,kh',by rw [HR1.out,HR2.out]; exact HS3,by rw [HRS1.out,HRS2.out]; omega,by rw [HRS1.out]; omega,by rw [HRS2.out]; omega⟩
     ·obtain rfl:=orr_of_ne HS2.out hp2
      clear HS2
      go_wp2_with fail
      go_ret
      exact ⟨rfl,k6'⟩
    ·obtain rfl:=orr_of_ne HS.out.symm hp1
     clear HS
     go_wp2_with fail
     go_ret
     exact ⟨rfl,k3'⟩
end Ver
end Go.Proofs.YtmhpjjjjgakpiaaGreatDoor

/-
The reference's Part: by ranks, sign by sign, and by digits behind the noughts. The reference's Part.
-/
import Derived.Test.YtmhpjjjjgakpiaaGreatDoorDVerPartK
import Derived.Deep.QuietTactic
namespace Go.Proofs.YtmhpjjjjgakpiaaGreatDoor
open Go.RowKit
set_option linter.unusedSimpArgs false
set_option linter.unusedVariables false
namespace Ver
open Txt (b b_eq b_lt)
def rkd:Bs → Int
 | []=>0
 | c :: _=>if dig c then 0 else rk c
theorem at_sigs (l:Bs) (i:Nat) (h:i ≤ spn false l):rkd (l.drop i) = rk0 ((sigs l).drop i):=by
 have hl:=spn_le false l
 by_cases e:i = spn false l
 ·subst e
  have h1:=spn_drop false l
  change headIs true (l.drop _) at h1
  rw [show (sigs l).drop (spn false l) = [] from List.drop_eq_nil_of_le (by unfold sigs; rw [List.length_take]; omega)]
  cases hb:l.drop (spn false l) with
  | nil=>rfl
  | cons c r =>
   rw [hb] at h1
   have h1':dig c = true:=h1
   show (if dig c then 0 else rk c) = 0
   rw [if_pos h1']
 ·have hi:i < l.length:=by omega
  have hs:i < (sigs l).length:=by unfold sigs; rw [List.length_take]; omega
  rw [List.drop_eq_getElem_cons hi,List.drop_eq_getElem_cons hs]
  have hg:(sigs l)[i] = l[i]:=List.getElem_take
  rw [hg]
  have:=spn_take false l (l[i]) (by
   change _ ∈ sigs l
   rw [← hg]; exact List.getElem_mem hs)
  show (if dig l[i] then 0 else rk l[i]) = rk l[i]
  rw [if_neg (by rw [this]; simp)]
theorem sigs_len (l:Bs):(sigs l).length = spn false l:=by unfold sigs; rw [List.length_take]; have:=spn_le false l; omega
theorem rk0_zero {x:Bs} (h:rk0 x = 0):x = []:=by
 cases x with
 | nil=>rfl
 | cons c x=>exact absurd h (rk_ne c)
theorem strip_app:∀ (d r:Bs),headNo dig r → strip (d ++ r) = strip d ++ r
 | [],r,h=>by
  cases r with
  | nil=>rfl
  | cons c r =>
   have hc:dig c = false:=h
   have:c ≠ 48:=fun e=>by subst e; exact absurd hc (by decide)
   show strip (c :: r) = c :: r
   unfold strip; rw [if_neg this]
 | c :: d,r,h=>by
  rw [List.cons_append]
  unfold strip
  by_cases e:c = 48
  ·rw [if_pos e,if_pos e,strip_app d r h]
  ·rw [if_neg e,if_neg e]; rfl
theorem spn_app:∀ (d r:Bs),(∀ c ∈ d,dig c = true) → headNo dig r → spn true (d ++ r) = d.length
 | [],r,_,h=>by
  cases r with
  | nil=>rfl
  | cons c r =>
   have hc:dig c = false:=h
   show spn true (c :: r) = 0
   unfold spn; rw [if_neg (by rw [hc]; simp)]
 | c :: d,r,hd,h=>by
  rw [List.cons_append]
  unfold spn
  rw [if_pos (hd c (.head _)),spn_app d r (fun x hx=>hd x (.tail _ hx)) h,List.length_cons]
theorem behind_nums (l:Bs):behind l = nums l ++ rest l:=by unfold nums rest; rw [List.take_append_drop]
theorem nums_dig (l:Bs):∀ c ∈ nums l,dig c = true:=spn_take true (behind l)
theorem strip_behind (l:Bs):strip (behind l) = strip (nums l) ++ rest l:=by rw [behind_nums l,strip_app _ _ (rest_head l)]
theorem run_skip (l:Bs):spn true (strip (behind l)) = (strip (nums l)).length:=by
 rw [strip_behind,spn_app _ _ (fun c h=>nums_dig l c (strip_sub _ c h)) (rest_head l)]
set_option maxRecDepth 100000 in
theorem yrank_any (s:ByteArray) (i:Nat) (w:World) (hs:s.size ≤ 9223372036854775807) :
  Calls Tryz.prog 109 #[.string s,.int .i64 i] w fun e w'=>e = .returned (.int .i64 (rkd ((li s).drop i))) ∧ w' = w:=by
 obtain ⟨G,hG⟩:∃ G,rkd ((li s).drop i) = G:=⟨_,rfl⟩
 have HG:=Lib.hid hG
 rw [hG]
 clear hG
 by_cases hlt:i < s.size
 ·have hlt':(i:Int) < (s.size:Int):=by omega
  have hge:¬ (s.size:Int) ≤ (i:Int):=by omega
  have hG:G = if digN (b s i) = true then 0 else if b s i = 126 then -1 else if alfN (b s i) = true then 1 + (b s i:Int) else 300 + (b s i:Int):=by
   obtain ⟨c,hc,hb⟩:=li_drop s i hlt
   rw [← HG.out,hc,← hb]
   show (if dig c then 0 else rk c) = _
   rw [dig_n]
   unfold rk
   rw [alf_n]
   have:(c = 126) = (c.toNat = 126):=by rw [← UInt8.toNat_inj]; rfl
   simp only [this]
  have hbc:=b_eq s i hlt
  have hbl:=b_lt s i
  obtain ⟨c,hc⟩:∃ c,b s i = c:=⟨_,rfl⟩
  rw [hc] at hbc hbl hG
  clear hc HG
  go_enter Tryz.func109,Tryz.ntmps109
  go_wp2_with fail
  refine (ydigit_any _ _).mono ?_
  rintro e w' ⟨rfl,rfl⟩
  cases hd:digN c
  ·rw [hd,if_neg (by simp)] at hG
   by_cases h126:c = 126
   ·subst h126
    rw [if_pos rfl] at hG
    subst hG
    go_wp2_with fail
    go_ret
    exact ⟨rfl,rfl⟩
   ·rw [if_neg h126] at hG
    have h126':¬ (c:Int) = 126:=by omega
    go_wp2_with fail
    refine (yletter_any _ _).mono ?_
    rintro e w' ⟨rfl,rfl⟩
    cases ha:alfN c
    ·rw [ha,if_neg (by simp)] at hG
     go_wp2_with fail
     go_ret
     subst hG
     exact ⟨by first | rfl | (congr 2; omega),rfl⟩
    ·rw [ha,if_pos rfl] at hG
     go_wp2_with fail
     go_ret
     subst hG
     exact ⟨by first | rfl | (congr 2; omega),rfl⟩
  ·rw [hd,if_pos rfl] at hG
   subst hG
   go_wp2_with fail
   go_ret
   exact ⟨rfl,rfl⟩
 ·have hge:(s.size:Int) ≤ (i:Int):=by omega
  have hG:G = 0:=by rw [← HG.out,List.drop_eq_nil_of_le (by rw [li_len]; omega)]; rfl
  subst hG
  clear HG
  go_enter Tryz.func109,Tryz.ntmps109
  go_wp2_with fail
  go_ret
  exact ⟨rfl,rfl⟩
theorem ysign_any (x y:Int) (w:World):Calls Tryz.prog 110 #[.int .i64 x,.int .i64 y] w fun e w'=>e = .returned (.int .i64 (sgn x y)) ∧ w' = w:=by
 by_cases h1:x < y
 ·rw [show sgn x y = -1 by unfold sgn; rw [if_pos h1]]
  go_enter Tryz.func110,Tryz.ntmps110
  go_wp2_with fail
  go_ret
  exact ⟨rfl,rfl⟩
 ·by_cases h2:y < x
  ·rw [show sgn x y = 1 by unfold sgn; rw [if_neg h1,if_pos h2]]
   go_enter Tryz.func110,Tryz.ntmps110
   go_wp2_with fail
   go_ret
   exact ⟨rfl,rfl⟩
  ·rw [show sgn x y = 0 by unfold sgn; rw [if_neg h1,if_neg h2]]
   go_enter Tryz.func110,Tryz.ntmps110
   go_wp2_with fail
   go_ret
   exact ⟨rfl,rfl⟩
set_option maxRecDepth 100000 in
theorem yrun_any (s:ByteArray) (w:World) (hs:s.size ≤ 4611686018427387904) :
  Calls Tryz.prog 112 #[.string s] w fun e w'=>e = .returned (.int .i64 (spn true (li s))) ∧ w' = w:=by
 obtain ⟨G,hG⟩:∃ G,spn true (li s) = G:=⟨_,rfl⟩
 have HG:=Lib.hid hG
 rw [hG]
 clear hG
 go_enter Tryz.func112,Tryz.ntmps112
 go_wp2
 go_loopg [3] s.size (fun gf s3 wx=>∃ pos:Nat,s3 = .int .i64 pos ∧ wx = w ∧ Hid (pos + spn true ((li s).drop pos) = G) ∧ s.size ≤ pos + gf ∧ pos ≤ s.size)
 case atStart=>exact ⟨0,rfl,rfl,(by rw [List.drop_zero,Nat.zero_add]; exact HG.out),by omega,by omega⟩
 case round =>
  obtain ⟨pos,rfl,rfl,HN,hfu,hps⟩:=hrel
  by_cases hlt:pos < s.size
  ·obtain ⟨g',rfl⟩:∃ g',gk = g' + 1:=⟨gk - 1,by omega⟩
   have hlt':(pos:Int) < (s.size:Int):=by omega
   have hbc:=b_eq s pos hlt
   have hbl:=b_lt s pos
   have hm:=fun h=>spn_more hlt h HN.out
   have ht:=fun h=>spn_stop hlt h HN.out
   obtain ⟨c,hc⟩:∃ c,b s pos = c:=⟨_,rfl⟩
   rw [hc] at hbc hbl hm ht
   clear hc
   go_wp2_with fail
   refine (ydigit_any _ _).mono ?_
   rintro e w' ⟨rfl,rfl⟩
   cases hd:digN c
   ·obtain rfl:=ht (by rw [hd]; simp)
    clear hm ht HN HG
    go_wp2_with fail
    go_ret
    exact ⟨rfl,rfl⟩
   ·have HM:=Lib.hid (hm hd)
    clear hm ht HN
    go_wp2_with fail
    go_roundg g'
    case measure=>omega
    case rel=>exact ⟨pos + 1,by go_num,rfl,HM,by omega,by omega⟩
  ·have hge:¬ (pos:Int) < (s.size:Int):=by omega
   obtain rfl:=spn_end hlt HN.out
   clear HN HG
   go_wp2_with fail
   go_ret
   exact ⟨rfl,rfl⟩
theorem behind_more {c:UInt8} {r:Bs} (h:dig c = false):behind (c :: r) = behind r:=by
 unfold behind
 rw [show spn false (c :: r) = spn false r + 1 by rw [spn,if_pos h],List.drop_succ_cons]
theorem behind_stop {l:Bs} (h:headIs true l):behind l = l:=by
 unfold behind
 cases l with
 | nil=>rfl
 | cons c r =>
  have hc:dig c = true:=h
  rw [show spn false (c :: r) = 0 by rw [spn,if_neg (by rw [hc]; simp)],List.drop_zero]
set_option maxRecDepth 100000 in
set_option maxHeartbeats 2000000 in
theorem yskip_any (s:ByteArray) (w:World) (hs:s.size ≤ 4611686018427387904) :
  Calls Tryz.prog 111 #[.string s] w fun e w'=>∃ t,e = .returned (.string t) ∧ li t = strip (behind (li s)) ∧ w' = w:=by
 obtain ⟨G,hG⟩:∃ G,strip (behind (li s)) = G:=⟨_,rfl⟩
 have HG:=Lib.hid hG
 rw [hG]
 clear hG
 go_enter Tryz.func111,Tryz.ntmps111
 go_wp2
 go_loopg [0] s.size (fun gf s0 wx=>∃ x:ByteArray,s0 = .string x ∧ wx = w ∧ Hid (strip (behind (li x)) = G) ∧ x.size ≤ gf ∧ x.size ≤ s.size)
 case atStart=>exact ⟨s,rfl,rfl,HG.out,by omega,by omega⟩
 case round =>
  obtain ⟨x,rfl,rfl,HN,hfu,hxs⟩:=hrel
  by_cases h0:x.size = 0
  ·obtain ⟨e1,e2⟩:=empty_is h0
   have hG:G = []:=by rw [← HN.out,e2]; rfl
   subst hG
   have HE:=Lib.hid e2
   clear HN HG e2 h0
   go_wp2_with fail
   go_loopg [0] 0 (fun gf s0 wx=>s0 = .string x ∧ wx = wr)
   case atStart=>exact ⟨rfl,rfl⟩
   case round =>
    obtain ⟨rfl,rfl⟩:=hrel
    go_wp2_with fail
    go_ret
    exact ⟨x,rfl,HE.out,rfl⟩
  ·obtain ⟨e1,e2⟩:=empty_no h0
   obtain ⟨c,hc,hcb⟩:=li_drop x 0 (by omega)
   rw [List.drop_zero] at hc
   have hlt:(0:Int) < (x.size:Int):=by omega
   have hbc:=b_eq x 0 (by omega)
   rw [← hcb] at hbc
   have hbl:=UInt8.toNat_lt c
   have hd1:li (x.extract 1 x.size) = (li x).drop 1:=li_ext_end x 1
   have hz1:(x.extract 1 x.size).size = x.size - 1:=by simp [ByteArray.size_extract]
   obtain ⟨g',rfl⟩:∃ g',gk = g' + 1:=⟨gk - 1,by omega⟩
   cases hd:digN c.toNat
   ·have hb:strip (behind (li (x.extract 1 x.size))) = G:=by
     rw [hd1,← HN.out,hc,behind_more (by rw [dig_n]; exact hd)]
     rfl
    have HB:=Lib.hid hb
    have HZ:=Lib.hid hz1
    have cd:=ydigit_any c.toNat wr
    rw [hd] at cd
    have h1:(1:Int) ≤ (x.size:Int):=by omega
    clear hb hz1 hd1 hc HN e2 hcb hd
    go_wp2_with fail
    refine cd.mono ?_
    rintro e w' ⟨rfl,rfl⟩
    go_wp2_with fail
    go_roundg g'
    case measure=>omega
    case rel=>exact ⟨_,rfl,rfl,HB,by rw [HZ.out]; omega,by rw [HZ.out]; omega⟩
   ·have hb:strip (li x) = G:=by
     rw [← HN.out,behind_stop (by rw [hc]; show dig c = true; rw [dig_n]; exact hd)]
    have HB:=Lib.hid hb
    have cd:=ydigit_any c.toNat wr
    rw [hd] at cd
    clear hb hz1 hd1 hc HN e2 hcb hd HG
    go_wp2_with fail
    refine cd.mono ?_
    rintro e w' ⟨rfl,rfl⟩
    clear cd hbc hlt e1 hbl
    go_wp2_with fail
    go_loopg [0] x.size (fun gf s0 wx=>∃ y:ByteArray,s0 = .string y ∧ wx = w' ∧ Hid (strip (li y) = G) ∧ y.size ≤ gf ∧ y.size ≤ s.size)
    case atStart=>exact ⟨x,rfl,rfl,HB.out,by omega,by omega⟩
    case round =>
     obtain ⟨y,rfl,rfl,HN,hfu2,hys⟩:=hrel
     by_cases k0:y.size = 0
     ·obtain ⟨e1,e2⟩:=empty_is k0
      have hG:G = []:=by rw [← HN.out,e2]; rfl
      subst hG
      have HE:=Lib.hid e2
      clear HN e2 k0
      go_wp2_with fail
      go_ret
      exact ⟨y,rfl,HE.out,rfl⟩
     ·obtain ⟨e1,e2⟩:=empty_no k0
      obtain ⟨d,hc,hcb⟩:=li_drop y 0 (by omega)
      rw [List.drop_zero] at hc
      have hlt:(0:Int) < (y.size:Int):=by omega
      have hbc:=b_eq y 0 (by omega)
      rw [← hcb] at hbc
      have hbl:=UInt8.toNat_lt d
      have hd1:li (y.extract 1 y.size) = (li y).drop 1:=li_ext_end y 1
      have hz1:(y.extract 1 y.size).size = y.size - 1:=by simp [ByteArray.size_extract]
      have hN:=HN.out
      rw [hc] at hN
      rw [hc,List.drop_succ_cons,List.drop_zero] at hd1
      unfold strip at hN
      obtain ⟨g2,rfl⟩:∃ g2,gk = g2 + 1:=⟨gk - 1,by omega⟩
      have h1:(1:Int) ≤ (y.size:Int):=by omega
      by_cases h48:d.toNat = 48
      ·have h48':d = 48:=UInt8.toNat_inj.1 (by simpa using h48)
       rw [if_pos h48',← hd1] at hN
       have HB:=Lib.hid hN
       have HZ:=Lib.hid hz1
       rw [h48] at hbc
       clear hN hz1 hd1 hc HN e2 hcb h48 h48'
       go_wp2_with fail
       go_roundg g2
       case measure=>omega
       case rel=>exact ⟨_,rfl,rfl,HB,by rw [HZ.out]; omega,by rw [HZ.out]; omega⟩
      ·have h48':d ≠ 48:=fun e=>h48 (by subst e; rfl)
       rw [if_neg h48'] at hN
       have HB:=Lib.hid (hc.trans hN)
       have h48i:¬ (d.toNat:Int) = 48:=by omega
       have h48b:((d.toNat:Int) == 48) = false:=by simp; omega
       clear hN hz1 hd1 hc HN e2 hcb h48 h48'
       go_wp2_with fail
       go_ret
       exact ⟨y,rfl,HB.out,rfl⟩
end Ver
end Go.Proofs.YtmhpjjjjgakpiaaGreatDoor
namespace Go.Proofs.YtmhpjjjjgakpiaaGreatDoor
open Go.RowKit
set_option linter.unusedSimpArgs false
set_option linter.unusedVariables false
namespace Ver
open Txt (b b_eq b_lt)
theorem cmp_step (x y:Bs) (i:Nat) (h1:i < x.length) (h2:i < y.length):Lib.compareBytes (x.drop i) (y.drop i) = orr (sgn (x[i].toNat:Int) (y[i].toNat:Int)) (Lib.compareBytes (x.drop (i + 1)) (y.drop (i + 1))):=by
 rw [List.drop_eq_getElem_cons h1,List.drop_eq_getElem_cons h2,Lib.compareBytes]
 generalize x[i] = c
 generalize y[i] = d
 unfold sgn orr
 have e1:(c < d) = ((c.toNat:Int) < d.toNat):=by rw [UInt8.lt_iff_toNat_lt]; simp
 have e2:(d < c) = ((d.toNat:Int) < c.toNat):=by rw [UInt8.lt_iff_toNat_lt]; simp
 simp only [e1,e2]
 (repeat' split) <;> simp_all
theorem get_b (s:ByteArray) (i:Nat) (h:i < s.size) (h':i < (li s).length):(li s)[i].toNat = b s i:=by
 unfold b; rw [dif_pos h]; rfl
theorem strip_len:∀ d:Bs,(strip d).length ≤ d.length
 | []=>Nat.le_refl _
 | c :: d=>by
  unfold strip
  split
  ·exact Nat.le_trans (strip_len d) (by simp)
  ·exact Nat.le_refl _
set_option maxRecDepth 100000 in
set_option maxHeartbeats 8000000 in
theorem ypart_any (s t:ByteArray) (w:World) (hs:s.size ≤ 4611686018427387904) (ht:t.size ≤ 4611686018427387904) :
  Calls Tryz.prog 77 #[.string s,.string t] w fun e w'=>e = .returned (.int .i64 (part (li s) (li t))) ∧ Below w.heap.size w w':=by
 obtain ⟨G,hG⟩:∃ G,part (li s) (li t) = G:=⟨_,rfl⟩
 have HG:=Lib.hid hG
 rw [hG]
 clear hG
 go_enter Tryz.func77,Tryz.ntmps77
 go_wp2
 go_loopg [0,1] (s.size + t.size) (fun gf s0 s1 wx=>∃ x y:ByteArray,s0 = .string x ∧ s1 = .string y ∧ Below w.heap.size w wx ∧ Hid (part (li x) (li y) = G) ∧ x.size + y.size ≤ gf ∧ x.size ≤ s.size ∧ y.size ≤ t.size)
 case atStart=>exact ⟨s,t,rfl,rfl,Below.refl _ _,HG.out,by omega,by omega,by omega⟩
 case round =>
  obtain ⟨x,y,rfl,rfl,hbw,HN,hfu,hx,hy⟩:=hrel
  by_cases h0:x.size = 0 ∧ y.size = 0
  ·obtain ⟨e1,e2⟩:=empty_is h0.1
   obtain ⟨e3,e4⟩:=empty_is h0.2
   have hG:G = 0:=by rw [← HN.out,e2,e4]; rfl
   subst hG
   clear HN HG e2 e4 h0
   go_wp2_with fail
   go_ret
   exact ⟨rfl,hbw⟩
  ·have hstep:=part_step (li x) (li y)
   rw [HN.out] at hstep
   have HS:=Lib.hid hstep
   have hsel:x.toList.isEmpty = false ∨ (x.toList.isEmpty = true ∧ y.toList.isEmpty = false):=by
    by_cases hx0:x.size = 0
    ·exact .inr ⟨(empty_is hx0).1,(empty_no (by omega)).1⟩
    ·exact .inl (empty_no hx0).1
   have hlen:(rest (li x)).length + (rest (li y)).length < x.size + y.size ∧ (rest (li x)).length ≤ x.size ∧ (rest (li y)).length ≤ y.size:=by
    have a1:=rest_le (li x)
    have a2:=rest_le (li y)
    by_cases hx0:x.size = 0
    ·have:=rest_lt (empty_no (s:=y) (by omega)).2
     rw [li_len] at a1 a2 this
     omega
    ·have:=rest_lt (empty_no hx0).2
     rw [li_len] at a1 a2 this
     omega
   have l1:spn false (li x) ≤ x.size:=by rw [← li_len]; exact spn_le _ _
   have l2:spn false (li y) ≤ y.size:=by rw [← li_len]; exact spn_le _ _
   obtain ⟨g',rfl⟩:∃ g',gk = g' + 1:=⟨gk - 1,by omega⟩
   obtain ⟨p1,hp1⟩:∃ p1,lex ((sigs (li x)).map rk) ((sigs (li y)).map rk) = p1:=⟨_,rfl⟩
   have HP1:=Lib.hid hp1
   rw [hp1] at hstep
   have HS1:=Lib.hid hstep
   clear hstep HS HN hp1 HG h0
   have HLEN:=Lib.hid hlen
   clear hlen
   rcases hsel with he | ⟨he1,he2⟩
   all_goals
    go_wp2_with fail
    go_loopg [5] x.size (fun gf s5 wx=>∃ i:Nat,s5 = .int .i64 i ∧ Below w.heap.size w wx ∧ Hid (lex (((sigs (li x)).drop i).map rk) (((sigs (li y)).drop i).map rk) = p1) ∧ x.size ≤ i + gf ∧ i ≤ spn false (li x) ∧ i ≤ spn false (li y))
    case atStart=>exact ⟨0,rfl,hbw,(by rw [List.drop_zero,List.drop_zero]; exact HP1.out),by omega,by omega,by omega⟩
    case round =>
     obtain ⟨i,rfl,hbi,HN,hfi,hi1,hi2⟩:=hrel
     have r1:=fun w=>yrank_any x i w (by omega)
     have r2:=fun w=>yrank_any y i w (by omega)
     rw [at_sigs _ _ hi1] at r1
     rw [at_sigs _ _ hi2] at r2
     have k1:rk0 ((sigs (li x)).drop i) = 0 ↔ i = spn false (li x):=by
      constructor
      ·intro h
       have:=List.drop_eq_nil_iff.1 (rk0_zero h)
       rw [sigs_len] at this; omega
      ·intro h
       rw [List.drop_eq_nil_of_le (by rw [sigs_len]; omega)]; rfl
     have k2:rk0 ((sigs (li y)).drop i) = 0 ↔ i = spn false (li y):=by
      constructor
      ·intro h
       have:=List.drop_eq_nil_iff.1 (rk0_zero h)
       rw [sigs_len] at this; omega
      ·intro h
       rw [List.drop_eq_nil_of_le (by rw [sigs_len]; omega)]; rfl
     have hst:rk0 ((sigs (li x)).drop i) ≠ 0 ∨ rk0 ((sigs (li y)).drop i) ≠ 0 → orr (sgn (rk0 ((sigs (li x)).drop i)) (rk0 ((sigs (li y)).drop i))) (lex (((sigs (li x)).drop (i + 1)).map rk) (((sigs (li y)).drop (i + 1)).map rk)) = p1:=by
      intro h
      have h3:(sigs (li x)).drop i ≠ [] ∨ (sigs (li y)).drop i ≠ []:=by
       rcases h with h | h
       ·left; intro hn; rw [hn] at h; exact h rfl
       ·right; intro hn; rw [hn] at h; exact h rfl
      have h4:=lex_map_step _ _ h3
      rw [tail_drop,tail_drop,HN.out] at h4
      exact h4.symm
     have hend:rk0 ((sigs (li x)).drop i) = 0 → rk0 ((sigs (li y)).drop i) = 0 → p1 = 0:=by
      intro h h'
      rw [← HN.out,rk0_zero h,rk0_zero h']; rfl
     generalize rk0 ((sigs (li x)).drop i) = A at *
     generalize rk0 ((sigs (li y)).drop i) = B at *
     by_cases hA:A = 0
     ·by_cases hB:B = 0
      ·have hp:=hend hA hB
       have HS2:=Lib.hid (orr_of_zero HS1.out.symm hp)
       subst hA
       subst hB
       clear hend hst k1 k2 HN HS1 HP1 hp hi1 hi2
       go_wp2_with fail
       refine (r1 _).mono ?_
       rintro e w1 ⟨rfl,rfl⟩
       go_wp2_with fail
       refine (r2 _).mono ?_
       rintro e w2 ⟨rfl,rfl⟩
       clear r1 r2
       go_wp2_with fail
       refine (yskip_any x _ (by omega)).mono ?_
       rintro e w3 ⟨x1,rfl,hx1,rfl⟩
       go_wp2_with fail
       refine (yskip_any y _ (by omega)).mono ?_
       rintro e w4 ⟨y1,rfl,hy1,rfl⟩
       have m1:spn true (li x1) = (strip (nums (li x))).length:=by rw [hx1,run_skip]
       have m2:spn true (li y1) = (strip (nums (li y))).length:=by rw [hy1,run_skip]
       have sx1:x1.size = (strip (nums (li x))).length + (rest (li x)).length:=by rw [← li_len,hx1,strip_behind,List.length_append]
       have sy1:y1.size = (strip (nums (li y))).length + (rest (li y)).length:=by rw [← li_len,hy1,strip_behind,List.length_append]
       rw [strip_behind] at hx1 hy1
       have bx1:x1.size ≤ x.size:=by
        have:=congrArg List.length (pieces (li x))
        rw [li_len,List.length_append,List.length_append] at this
        have h2:(strip (nums (li x))).length ≤ (nums (li x)).length:=strip_len _
        omega
       have by1:y1.size ≤ y.size:=by
        have:=congrArg List.length (pieces (li y))
        rw [li_len,List.length_append,List.length_append] at this
        have h2:(strip (nums (li y))).length ≤ (nums (li y)).length:=strip_len _
        omega
       have q1:=fun w=>yrun_any x1 w (by omega)
       have q2:=fun w=>yrun_any y1 w (by omega)
       rw [m1] at q1
       rw [m2] at q2
       clear m1 m2
       have hs2:=HS2.out
       unfold numB at hs2
       rw [orr_orr] at hs2
       obtain ⟨hl1,hl2,hl3⟩:=HLEN.out
       generalize strip (nums (li x)) = dx at *
       generalize strip (nums (li y)) = dy at *
       have HX1:=Lib.hid hx1
       have HY1:=Lib.hid hy1
       have HS3:=Lib.hid hs2
       clear hs2 HS2 hx1 hy1
       generalize rest (li x) = rx at *
       generalize rest (li y) = ry at *
       have HSX:=Lib.hid sx1
       have HSY:=Lib.hid sy1
       clear HLEN
       have hdx:dx.length ≤ x1.size:=by omega
       have hdy:dy.length ≤ y1.size:=by omega
       have hdx':(dx.length:Int) ≤ x1.size:=by omega
       have hdy':(dy.length:Int) ≤ y1.size:=by omega
       have hbx:x1.size ≤ 4611686018427387904:=by omega
       have hby:y1.size ≤ 4611686018427387904:=by omega
       obtain ⟨n1,hn1⟩:∃ n1,dx.length = n1:=⟨_,rfl⟩
       obtain ⟨n2,hn2⟩:∃ n2,dy.length = n2:=⟨_,rfl⟩
       rw [hn1] at q1 hdx hdx'
       rw [hn2] at q2 hdy hdy'
       have HN1:=Lib.hid hn1
       have HN2:=Lib.hid hn2
       clear sx1 sy1 hn1 hn2
       go_wp2_with fail
       refine (q1 _).mono ?_
       rintro e w5 ⟨rfl,rfl⟩
       go_wp2_with fail
       refine (q2 _).mono ?_
       rintro e w6 ⟨rfl,rfl⟩
       clear q1 q2
       by_cases hmn:n1 = n2
       ·subst hmn
        have hq:=orr_of_zero HS3.out (by rw [HN1.out,HN2.out]; exact sgn_self _)
        have HQ:=Lib.hid hq
        clear hq HS3
        go_wp2_with fail
        go_loopg [54] n1 (fun gf s54 wx=>∃ j:Nat,s54 = .int .i64 j ∧ Below w.heap.size w wx ∧ Hid (orr (Lib.compareBytes (dx.drop j) (dy.drop j)) (part rx ry) = G) ∧ n1 ≤ j + gf ∧ j ≤ n1)
        case atStart=>exact ⟨0,rfl,hbi,(by rw [List.drop_zero,List.drop_zero]; exact HQ.out),by omega,by omega⟩
        case round =>
         obtain ⟨j,rfl,hbj,HJ,hfj,hjn⟩:=hrel
         by_cases hj:j < n1
         ·have hj':(j:Int) < (n1:Int):=by omega
          have jx:j < dx.length:=by rw [HN1.out]; exact hj
          have jy:j < dy.length:=by rw [HN2.out]; exact hj
          have hst:=cmp_step dx dy j jx jy
          have bx:b x1 j = (dx[j]).toNat:=by
           rw [← get_b x1 j (by omega) (by rw [li_len]; omega)]
           congr 1
           simp only [HX1.out]
           rw [List.getElem_append_left]
          have by':b y1 j = (dy[j]).toNat:=by
           rw [← get_b y1 j (by omega) (by rw [li_len]; omega)]
           congr 1
           simp only [HY1.out]
           rw [List.getElem_append_left]
          have hj1:j < x1.size:=by omega
          have hj2:j < y1.size:=by omega
          have cx:=b_eq x1 j hj1
          have cy:=b_eq y1 j hj2
          have lx:=UInt8.toNat_lt dx[j]
          have ly:=UInt8.toNat_lt dy[j]
          rw [bx] at cx
          rw [by'] at cy
          have jx':(j:Int) < (x1.size:Int):=by omega
          have jy':(j:Int) < (y1.size:Int):=by omega
          generalize dx[j].toNat = c at *
          generalize dy[j].toNat = d at *
          have hJ:=HJ.out
          rw [hst,orr_orr] at hJ
          have HJ2:=Lib.hid hJ
          clear hst bx by' hJ HJ jx jy
          have CS:=ysign_any c d
          by_cases hs0:sgn (c:Int) (d:Int) = 0
          ·have HJ3:=Lib.hid (orr_of_zero HJ2.out hs0)
           rw [hs0] at CS
           obtain ⟨g2,rfl⟩:∃ g2,gk = g2 + 1:=⟨gk - 1,by omega⟩
           clear HJ2 hs0
           go_wp2_with fail
           go_still_tail 8,(by kernel_rfl)
           change wpList _ _ _ _ _ wr.drew
           have kq:Below w.heap.size w wr.drew:=hbj.trans ((Below.refl _ _).drew.mono hbj.size)
           generalize wr.drew = wd at *
           go_wp2_with fail
           refine (CS _).mono ?_
           rintro e w7 ⟨rfl,rfl⟩
           go_wp2_with fail
           go_roundg g2
           case measure=>omega
           case rel=>exact ⟨j + 1,by go_num,kq,HJ3,by omega,by omega⟩
          ·obtain rfl:=orr_of_ne HJ2.out hs0
           have hs0':(sgn (c:Int) (d:Int) == 0) = false:=by simp; exact hs0
           clear HJ2
           go_wp2_with fail
           go_still_tail 8,(by kernel_rfl)
           change wpList _ _ _ _ _ wr.drew
           have kq:Below w.heap.size w wr.drew:=hbj.trans ((Below.refl _ _).drew.mono hbj.size)
           generalize wr.drew = wd at *
           go_wp2_with fail
           refine (CS _).mono ?_
           rintro e w7 ⟨rfl,rfl⟩
           go_wp2_with fail
           go_ret
           exact ⟨rfl,kq⟩
         ·have hj':¬ (j:Int) < (n1:Int):=by omega
          have hJ:=HJ.out
          rw [List.drop_eq_nil_of_le (by rw [HN1.out]; omega),List.drop_eq_nil_of_le (by rw [HN2.out]; omega)] at hJ
          have HJ2:=Lib.hid (orr_of_zero hJ rfl)
          have e1:li (x1.extract n1 x1.size) = rx:=by
           rw [li_ext_end,HX1.out,← HN1.out,List.drop_left]
          have e2:li (y1.extract n1 y1.size) = ry:=by
           rw [li_ext_end,HY1.out,← HN2.out,List.drop_left]
          have z1:(x1.extract n1 x1.size).size = rx.length:=by rw [← li_len,e1]
          have z2:(y1.extract n1 y1.size).size = ry.length:=by rw [← li_len,e2]
          have HE1:=Lib.hid e1
          have HE2:=Lib.hid e2
          have HZ1:=Lib.hid z1
          have HZ2:=Lib.hid z2
          clear hJ HJ e1 e2 z1 z2
          go_wp2_with fail
          go_quiet (fail)
          have kq:Below w.heap.size w (wr.drewN nq):=hbj.trans ((below_drewN _ _).mono hbj.size)
          generalize wr.drewN nq = wd at *
          go_wp2_with fail
          go_roundg g'
          case measure=>omega
          case rel=>exact ⟨_,_,rfl,rfl,kq,by rw [HE1.out,HE2.out]; exact HJ2,by rw [HZ1.out,HZ2.out]; omega,by rw [HZ1.out]; omega,by rw [HZ2.out]; omega⟩
       ·have hne:((n1:Int) != (n2:Int)) = true:=by simp; omega
        have hne':((n1:Int) == (n2:Int)) = false:=by simp; omega
        have hG:G = sgn (n1:Int) (n2:Int):=by
         have h3:=HS3.out
         rw [HN1.out,HN2.out,orr_ne (sgn_ne (by omega))] at h3
         exact h3.symm
        subst hG
        clear HS3
        go_wp2_with fail
        refine (ysign_any _ _ _).mono ?_
        rintro e w7 ⟨rfl,rfl⟩
        go_wp2_with fail
        go_ret
        exact ⟨rfl,hbi⟩
      ·have h:=hst (.inr hB)
       have hs0:sgn A B ≠ 0:=sgn_ne (by omega)
       obtain rfl:=orr_of_ne h hs0
       obtain rfl:=orr_of_ne HS1.out.symm hs0
       subst hA
       have hB':(B == 0) = false:=by simp; omega
       have hs0':(sgn 0 B == 0) = false:=by simp; exact hs0
       clear hend hst k1 k2 HN HS1 HP1 h hi1 hi2
       go_wp2_with fail
       refine (r1 _).mono ?_
       rintro e w1 ⟨rfl,rfl⟩
       go_wp2_with fail
       refine (r2 _).mono ?_
       rintro e w2 ⟨rfl,rfl⟩
       go_wp2_with fail
       refine (r1 _).mono ?_
       rintro e w3 ⟨rfl,rfl⟩
       go_wp2_with fail
       refine (r2 _).mono ?_
       rintro e w4 ⟨rfl,rfl⟩
       go_wp2_with fail
       refine (ysign_any _ _ _).mono ?_
       rintro e w5 ⟨rfl,rfl⟩
       go_wp2_with fail
       go_ret
       exact ⟨rfl,hbi⟩
     ·have h:=hst (.inl hA)
      have hA':(A == 0) = false:=by simp; omega
      by_cases hs0:sgn A B = 0
      ·have h2:=orr_of_zero h hs0
       have HM:=Lib.hid h2
       have hAB:A = B:=by
        unfold sgn at hs0
        revert hs0
        (repeat' split) <;> omega
       have hl1:i < spn false (li x):=by
        have:i ≠ spn false (li x):=fun e=>hA (k1.2 e)
        omega
       have hl2:i < spn false (li y):=by
        have:i ≠ spn false (li y):=fun e=>hA (hAB.trans (k2.2 e))
        omega
       have CS:=ysign_any A B
       rw [hs0] at CS
       obtain ⟨g2,rfl⟩:∃ g2,gk = g2 + 1:=⟨gk - 1,by omega⟩
       clear hend hst k1 k2 HN h h2 hs0 hAB
       go_wp2_with fail
       refine (r1 _).mono ?_
       rintro e w1 ⟨rfl,rfl⟩
       go_wp2_with fail
       refine (r1 _).mono ?_
       rintro e w3 ⟨rfl,rfl⟩
       go_wp2_with fail
       refine (r2 _).mono ?_
       rintro e w4 ⟨rfl,rfl⟩
       go_wp2_with fail
       refine (CS _).mono ?_
       rintro e w5 ⟨rfl,rfl⟩
       go_wp2_with fail
       go_roundg g2
       case measure=>omega
       case rel=>exact ⟨i + 1,by go_num,hbi,HM,by omega,by omega,by omega⟩
      ·obtain rfl:=orr_of_ne h hs0
       obtain rfl:=orr_of_ne HS1.out.symm hs0
       have hs0':(sgn A B == 0) = false:=by simp; exact hs0
       clear hend hst k1 k2 HN HS1 HP1 h hi1 hi2
       go_wp2_with fail
       refine (r1 _).mono ?_
       rintro e w1 ⟨rfl,rfl⟩
       go_wp2_with fail
       refine (r1 _).mono ?_
       rintro e w3 ⟨rfl,rfl⟩
       go_wp2_with fail
       refine (r2 _).mono ?_
       rintro e w4 ⟨rfl,rfl⟩
       go_wp2_with fail
       refine (ysign_any _ _ _).mono ?_
       rintro e w5 ⟨rfl,rfl⟩
       go_wp2_with fail
       go_ret
       exact ⟨rfl,hbi⟩
end Ver
end Go.Proofs.YtmhpjjjjgakpiaaGreatDoor

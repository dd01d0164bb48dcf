/-
The reference's Version, its walk.
-/
import Derived.Test.YtmhpjjjjgakpiaaGreatDoorDVerRefParse
import Derived.BigQuiet
namespace Go.Proofs.YtmhpjjjjgakpiaaGreatDoor
open Go.RowKit
set_option linter.unusedSimpArgs false
set_option linter.unusedVariables false
namespace Ver
open Txt (b b_eq b_lt)
def ytold:Option (Bs × Bs × Bs) → Value
 | none=>.tuple #[.string ⟨#[]⟩,.string ⟨#[]⟩,.string ⟨#[]⟩,.bool false]
 | some p=>.tuple #[.string (S p.1),.string (S p.2.1),.string (S p.2.2),.bool true]
theorem ytold_no {o:Option (Bs × Bs × Bs)} {G:Value} (h:ytold o = G) (hn:o = none):G = .tuple #[.string ⟨#[]⟩,.string ⟨#[]⟩,.string ⟨#[]⟩,.bool false]:=by rw [← h,hn]; rfl
theorem ytold_yes {o:Option (Bs × Bs × Bs)} {G:Value} {e u v:ByteArray} (h:ytold o = G) (hn:o = some (li e,li u,li v)):G = .tuple #[.string e,.string u,.string v,.bool true]:=by
 rw [← h,hn]
 show Value.tuple #[.string (S (li e)),.string (S (li u)),.string (S (li v)),.bool true] = _
 rw [S_self,S_self,S_self]
theorem up_no {u:ByteArray} {o x:Option (Bs × Bs × Bs)} (h:o = if upOK (li u) = true then x else none) (hn:¬ upP u):o = none:=by
 rw [h,up_is,if_neg]; simp [hn]
theorem up_yes {u:ByteArray} {o x:Option (Bs × Bs × Bs)} (h:o = if upOK (li u) = true then x else none) (hn:upP u):o = x:=by
 rw [h,up_is,if_pos]; simp [hn]
def Split (ls:Bs) (ep u v:ByteArray):Prop:=(∀ j,j < v.size → sigN (b v j) = false → parse ls = none) ∧ ((∀ j,j < v.size → sigN (b v j) = true) → parse ls = if upOK (li u) = true then some (li ep,li u,li v) else none)
theorem split_none {ls:Bs} {ep r:ByteArray} (hl:1 ≤ ls.length ∧ ls.length ≤ 48) (he:epF ls = (li ep,li r,true)) (hc:cutZ 45 (li r) = none):Split ls ep r ⟨#[]⟩:=by
 have hr:rvF (li r) = (li r,[],true):=by unfold rvF; rw [hc]
 refine ⟨fun j hj=>absurd hj (Nat.not_lt_zero j),fun _=>?_⟩
 rw [parse_up hl (by rw [he]) (by rw [he,hr]),he,hr]
theorem split_some {ls:Bs} {ep r u v:ByteArray} (hl:1 ≤ ls.length ∧ ls.length ≤ 48) (he:epF ls = (li ep,li r,true)) (hc:cutZ 45 (li r) = some (li u,li v)) (hv:v.size ≠ 0):Split ls ep u v:=by
 have hr:rvF (li r) = (li u,li v,decide (rvP v)):=by
  unfold rvF; rw [hc]
  show (li u,li v,_) = _
  rw [decide_eq_decide.2 (rv_is v)]
 refine ⟨fun j hj hb=>?_,fun h=>?_⟩
 ·refine parse_rv (by rw [he]) ?_
  rw [he,hr]
  exact decide_eq_false fun k=>by have:=k.2 j hj; rw [hb] at this; cases this
 ·have hd:decide (rvP v) = true:=decide_eq_true ⟨by omega,h⟩
  rw [hd] at hr
  rw [parse_up hl (by rw [he]) (by rw [he,hr]),he,hr]
theorem split_empty {ls:Bs} {ep r u:ByteArray} {v:ByteArray} (he:epF ls = (li ep,li r,true)) (hc:cutZ 45 (li r) = some (li u,li v)) (hv:v.size = 0):parse ls = none:=by
 refine parse_rv (by rw [he]) ?_
 rw [he]
 unfold rvF
 rw [hc]
 exact decide_eq_false fun k=>k.1 (empty_is hv).2
set_option maxRecDepth 100000 in
set_option maxHeartbeats 16000000 in
theorem yversion_gen (s:ByteArray) (w:World) (hs:s.size ≤ 4611686018427387904) (KB:World → Prop) (kb:KB w) (kd:∀ u n,KB u → KB (u.drewN n)) :
  Calls Tryz.prog 76 #[.string s] w fun e w'=>e = .returned (ytold (parse (li s))) ∧ KB w':=by
 obtain ⟨ls,hls⟩:∃ ls,li s = ls:=⟨_,rfl⟩
 have HLS:=Lib.hid hls
 rw [hls]
 obtain ⟨G,hG⟩:∃ G,ytold (parse ls) = G:=⟨_,rfl⟩
 have HRES:=Lib.hid hG
 rw [hG]
 clear hG
 by_cases h48:s.size = 0 ∨ 48 < s.size
 ·obtain rfl:=ytold_no HRES.out (parse_size (by rw [← HLS.out,li_len]; omega))
  clear HRES
  rcases h48 with h | h
  ·have h':(s.size:Int) = 0:=by omega
   go_enter Tryz.func76,Tryz.ntmps76
   go_wp2_with fail
   refine bodyPost_ret (results_tmp4 rfl _ _ _) rfl ?_
   exact ⟨rfl,kb⟩
  ·have h1:((s.size:Int) == 0) = false:=by rw [beq_eq_false_iff_ne]; omega
   have h2:48 < (s.size:Int):=by omega
   go_enter Tryz.func76,Tryz.ntmps76
   go_wp2_with fail
   refine bodyPost_ret (results_tmp4 rfl _ _ _) rfl ?_
   exact ⟨rfl,kb⟩
 have hl:1 ≤ ls.length ∧ ls.length ≤ 48:=by rw [← HLS.out,li_len]; omega
 have h1:((s.size:Int) == 0) = false:=by rw [beq_eq_false_iff_ne]; omega
 have h2:¬ 48 < (s.size:Int):=by omega
 have hs48:s.size ≤ 48:=by omega
 have HL:=Lib.hid hl
 clear hl h48 hls
 have cf:=yfirst_any s 58 w hs
 go_enter Tryz.func76,Tryz.ntmps76
 go_wp2_with fail
 refine cf.mono ?_
 rintro e w1 ⟨k,rfl,hk,rfl⟩
 clear cf
 rcases hk with ⟨rfl,hc⟩ | ⟨i,rfl,hi,hc⟩
 ·have HEP:Hid (epF ls = (li (⟨#[48]⟩:ByteArray),li s,true)):=by
   have hc':=hc
   rw [HLS.out] at hc'
   unfold epF; rw [hc',HLS.out]; rfl
  obtain ⟨r,hr⟩:∃ r,r = s:=⟨_,rfl⟩
  subst hr
  have hr48:=hs48
  clear hc
  have cz:=fun w=>ylast_any r 45 w (by omega)
  go_wp2_with fail
  refine (cz _).mono ?_
  rintro e w2 ⟨k,rfl,hk,rfl⟩
  clear cz
  rcases hk with ⟨rfl,hcz⟩ | ⟨i2,rfl,hi2,hcz⟩
  ·have HSP:=Lib.hid (split_none HL.out HEP.out hcz)
   clear hcz HEP HL
   have HUP:=Lib.hid (HSP.out.2 fun j hj=>absurd hj (Nat.not_lt_zero j))
   clear HSP
   obtain ⟨u,hu⟩:∃ u,u = r:=⟨_,rfl⟩
   subst hu
   have hu48:=hr48
   go_wp2_with fail
   go_loopg [68] 0 (fun gf s68 wx=>s68 = .int .i64 0 ∧ KB wx)
   case atStart=>exact ⟨rfl,kb⟩
   case round =>
    obtain ⟨rfl,kb⟩:=hrel
    go_wp2_with fail
    go_loopg [97] u.size (fun gf s97 wx=>∃ pos:Nat,s97 = .int .i64 pos ∧ KB wx ∧ Hid (∀ j,j < pos → upsN (b u j) = true) ∧ u.size ≤ pos + gf ∧ pos ≤ u.size)
    case atStart=>exact ⟨0,rfl,kb,fun j hj=>by omega,by omega,by omega⟩
    case round =>
     obtain ⟨pos,rfl,kb,HN,hfu,hps⟩:=hrel
     by_cases hlt:pos < u.size
     ·obtain ⟨g',rfl⟩:∃ g',gk = g' + 1:=⟨gk - 1,by omega⟩
      have hlt':(pos:Int) < (u.size:Int):=by omega
      have hbc:=b_eq u pos hlt
      have hbl:=b_lt u pos
      have hm:upsN (b u pos) = true → ∀ j,j < pos + 1 → upsN (b u j) = true:=fun h=>more (p:=fun j=>upsN (b u j)) HN.out h
      have hbad:upsN (b u pos) = false → parse ls = none:=fun h=>up_no HUP.out fun k=>by have:=k.2.2 pos hlt; rw [h] at this; cases this
      have hsg:upsN (b u pos) = (alfN (b u pos) || digN (b u pos) || decide (b u pos = 43) || decide (b u pos = 46) || decide (b u pos = 126) || decide (b u pos = 45) || decide (b u pos = 58)):=rfl
      obtain ⟨c,hcc⟩:∃ c,b u pos = c:=⟨_,rfl⟩
      rw [hcc] at hbc hbl hbad hsg
      have HMM:Hid (upsN c = true → ∀ j,j < pos + 1 → upsN (b u j) = true):=by rw [← hcc]; exact hm
      have HBAD:=Lib.hid hbad
      clear hcc hm hbad HN
      have cl:=yletter_any c
      have cd:=ydigit_any c
      cases ha:alfN c
      ·rw [ha] at cl
       cases hd:digN c
       ·rw [hd] at cd
        by_cases hc3:c = 43 ∨ c = 46 ∨ c = 126 ∨ c = 45 ∨ c = 58
        ·have HM:=Lib.hid (HMM.out (by rw [hsg]; rcases hc3 with rfl | rfl | rfl | rfl | rfl <;> simp))
         clear HMM HBAD hsg ha hd
         rcases hc3 with rfl | rfl | rfl | rfl | rfl
         all_goals
          go_wp2_with fail
          refine (cl _).mono ?_
          rintro e w8 ⟨rfl,rfl⟩
          go_wp2_with fail
          refine (cd _).mono ?_
          rintro e w9 ⟨rfl,rfl⟩
          go_wp2_with fail
          go_roundg g'
          case measure=>omega
          case rel=>exact ⟨pos + 1,by go_num,kb,HM,by omega,by omega⟩
        ·obtain rfl:=ytold_no HRES.out (HBAD.out (by rw [hsg,ha,hd]; simp; omega))
         have q1:((c:Int) != 43) = true:=by simp; omega
         have q2:((c:Int) != 46) = true:=by simp; omega
         have q3:((c:Int) != 126) = true:=by simp; omega
         have q4:((c:Int) != 45) = true:=by simp; omega
         have q5:((c:Int) != 58) = true:=by simp; omega
         clear HMM HBAD hsg ha hd HRES HUP
         go_wp2_with fail
         refine (cl _).mono ?_
         rintro e w8 ⟨rfl,rfl⟩
         go_wp2_with fail
         refine (cd _).mono ?_
         rintro e w9 ⟨rfl,rfl⟩
         go_wp2_with fail
         refine bodyPost_ret (results_tmp4 rfl _ _ _) rfl ?_
         exact ⟨rfl,kb⟩
       ·rw [hd] at cd
        have HM:=Lib.hid (HMM.out (by rw [hsg,hd]; simp))
        clear HMM HBAD hsg ha hd
        go_wp2_with fail
        refine (cl _).mono ?_
        rintro e w8 ⟨rfl,rfl⟩
        go_wp2_with fail
        refine (cd _).mono ?_
        rintro e w9 ⟨rfl,rfl⟩
        go_wp2_with fail
        go_roundg g'
        case measure=>omega
        case rel=>exact ⟨pos + 1,by go_num,kb,HM,by omega,by omega⟩
      ·rw [ha] at cl
       have HM:=Lib.hid (HMM.out (by rw [hsg,ha]; simp))
       clear HMM HBAD hsg ha
       go_wp2_with fail
       refine (cl _).mono ?_
       rintro e w8 ⟨rfl,rfl⟩
       go_wp2_with fail
       go_roundg g'
       case measure=>omega
       case rel=>exact ⟨pos + 1,by go_num,kb,HM,by omega,by omega⟩
     ·have hge2:¬ (pos:Int) < (u.size:Int):=by omega
      have HALL:Hid (∀ j,j < u.size → upsN (b u j) = true):=fun j hj=>HN.out j (by omega)
      by_cases hu0:u.size = 0
      ·have hu0':(u.size:Int) = 0:=by omega
       obtain rfl:=ytold_no HRES.out (up_no HUP.out fun k=>by have:=k.1; omega)
       clear HRES HUP HALL HN
       go_wp2_with fail
       refine bodyPost_ret (results_tmp4 rfl _ _ _) rfl ?_
       exact ⟨rfl,kb⟩
      ·have hu0':((u.size:Int) == 0) = false:=by rw [beq_eq_false_iff_ne]; omega
       have hup:0 < u.size:=by omega
       have hup':(0:Int) < (u.size:Int):=by omega
       have hbc:=b_eq u 0 hup
       have hbl:=b_lt u 0
       have hyes:digN (b u 0) = true → parse ls = some (li (⟨#[48]⟩:ByteArray),li u,li (⟨#[]⟩:ByteArray)):=fun h=>up_yes HUP.out ⟨hup,h,HALL.out⟩
       have hno:digN (b u 0) = false → parse ls = none:=fun h=>up_no HUP.out fun k=>by have:=k.2.1; rw [h] at this; cases this
       obtain ⟨c,hcc⟩:∃ c,b u 0 = c:=⟨_,rfl⟩
       rw [hcc] at hbc hbl hyes hno
       clear hcc HUP HALL HN
       have cd:=ydigit_any c
       cases hd:digN c
       ·obtain rfl:=ytold_no HRES.out (hno hd)
        rw [hd] at cd
        clear hyes hno HRES hd
        go_wp2_with fail
        refine (cd _).mono ?_
        rintro e w9 ⟨rfl,rfl⟩
        go_wp2_with fail
        refine bodyPost_ret (results_tmp4 rfl _ _ _) rfl ?_
        exact ⟨rfl,kb⟩
       ·obtain rfl:=ytold_yes HRES.out (hyes hd)
        rw [hd] at cd
        clear hyes hno HRES hd
        go_wp2_with fail
        refine (cd _).mono ?_
        rintro e w9 ⟨rfl,rfl⟩
        go_wp2_with fail
        refine bodyPost_ret (results_tmp4 rfl _ _ _) rfl ?_
        exact ⟨rfl,kb⟩
  ·obtain ⟨m2,hm2⟩:∃ m2,i2 + 1 = m2:=⟨_,rfl⟩
   have hsum2:(i2:Int) + 1 = (m2:Int):=by omega
   have hwr2:IntKind.i64.wrap (m2:Int) = (m2:Int):=IntWalk.i64_in _ (by omega)
   rw [hm2] at hcz
   have j1:(i2:Int) ≤ r.size:=by omega
   have j2:(m2:Int) ≤ r.size:=by omega
   have e1:li (r.extract 0 i2) = (li r).take i2:=li_ext_zero r i2 (by omega)
   have e2:li (r.extract m2 r.size) = (li r).drop m2:=li_ext_end r m2
   rw [← e1,← e2] at hcz
   have hu48:(r.extract 0 i2).size ≤ 48:=by simp [ByteArray.size_extract]; omega
   have hv48:(r.extract m2 r.size).size ≤ 48:=by simp [ByteArray.size_extract]; omega
   have HCZ:=Lib.hid hcz
   clear e1 e2 hcz hm2
   go_wp2_with fail
   go_quiet (fail)
   have kb:=kd _ nq kb
   generalize w2.drewN nq = w3 at *
   generalize r.extract 0 i2 = u at *
   generalize r.extract m2 r.size = v at *
   by_cases hv0:v.size = 0
   ·obtain ⟨hve,_⟩:=empty_is hv0
    obtain rfl:=ytold_no HRES.out (split_empty HEP.out HCZ.out hv0)
    clear HRES HCZ HEP HL
    go_wp2_with fail
    refine bodyPost_ret (results_tmp4 rfl _ _ _) rfl ?_
    exact ⟨rfl,kb⟩
   ·obtain ⟨hve,_⟩:=empty_no hv0
    have HSP:=Lib.hid (split_some HL.out HEP.out HCZ.out hv0)
    clear HCZ HEP HL
    go_wp2_with fail
    go_loopg [68] v.size (fun gf s68 wx=>∃ pos:Nat,s68 = .int .i64 pos ∧ KB wx ∧ Hid (∀ j,j < pos → sigN (b v j) = true) ∧ v.size ≤ pos + gf ∧ pos ≤ v.size)
    case atStart=>exact ⟨0,rfl,kb,fun j hj=>by omega,by omega,by omega⟩
    case round =>
     obtain ⟨pos,rfl,kb,HN,hfu,hps⟩:=hrel
     by_cases hlt:pos < v.size
     ·obtain ⟨g',rfl⟩:∃ g',gk = g' + 1:=⟨gk - 1,by omega⟩
      have hlt':(pos:Int) < (v.size:Int):=by omega
      have hbc:=b_eq v pos hlt
      have hbl:=b_lt v pos
      have hm:sigN (b v pos) = true → ∀ j,j < pos + 1 → sigN (b v j) = true:=fun h=>more (p:=fun j=>sigN (b v j)) HN.out h
      have hbad:sigN (b v pos) = false → parse ls = none:=fun h=>HSP.out.1 pos hlt h
      have hsg:sigN (b v pos) = (alfN (b v pos) || digN (b v pos) || decide (b v pos = 43) || decide (b v pos = 46) || decide (b v pos = 126)):=rfl
      obtain ⟨c,hcc⟩:∃ c,b v pos = c:=⟨_,rfl⟩
      rw [hcc] at hbc hbl hbad hsg
      have HMM:Hid (sigN c = true → ∀ j,j < pos + 1 → sigN (b v j) = true):=by rw [← hcc]; exact hm
      have HBAD:=Lib.hid hbad
      clear hcc hm hbad HN
      have cl:=yletter_any c
      have cd:=ydigit_any c
      cases ha:alfN c
      ·rw [ha] at cl
       cases hd:digN c
       ·rw [hd] at cd
        by_cases hc3:c = 43 ∨ c = 46 ∨ c = 126
        ·have HM:=Lib.hid (HMM.out (by rw [hsg]; rcases hc3 with rfl | rfl | rfl <;> simp))
         clear HMM HBAD hsg ha hd
         rcases hc3 with rfl | rfl | rfl
         all_goals
          go_wp2_with fail
          refine (cl _).mono ?_
          rintro e w8 ⟨rfl,rfl⟩
          go_wp2_with fail
          refine (cd _).mono ?_
          rintro e w9 ⟨rfl,rfl⟩
          go_wp2_with fail
          go_roundg g'
          case measure=>omega
          case rel=>exact ⟨pos + 1,by go_num,kb,HM,by omega,by omega⟩
        ·obtain rfl:=ytold_no HRES.out (HBAD.out (by rw [hsg,ha,hd]; simp; omega))
         have q1:((c:Int) != 43) = true:=by simp; omega
         have q2:((c:Int) != 46) = true:=by simp; omega
         have q3:((c:Int) != 126) = true:=by simp; omega
         clear HMM HBAD hsg ha hd HRES HSP
         go_wp2_with fail
         refine (cl _).mono ?_
         rintro e w8 ⟨rfl,rfl⟩
         go_wp2_with fail
         refine (cd _).mono ?_
         rintro e w9 ⟨rfl,rfl⟩
         go_wp2_with fail
         refine bodyPost_ret (results_tmp4 rfl _ _ _) rfl ?_
         exact ⟨rfl,kb⟩
       ·rw [hd] at cd
        have HM:=Lib.hid (HMM.out (by rw [hsg,hd]; simp))
        clear HMM HBAD hsg ha hd
        go_wp2_with fail
        refine (cl _).mono ?_
        rintro e w8 ⟨rfl,rfl⟩
        go_wp2_with fail
        refine (cd _).mono ?_
        rintro e w9 ⟨rfl,rfl⟩
        go_wp2_with fail
        go_roundg g'
        case measure=>omega
        case rel=>exact ⟨pos + 1,by go_num,kb,HM,by omega,by omega⟩
      ·rw [ha] at cl
       have HM:=Lib.hid (HMM.out (by rw [hsg,ha]; simp))
       clear HMM HBAD hsg ha
       go_wp2_with fail
       refine (cl _).mono ?_
       rintro e w8 ⟨rfl,rfl⟩
       go_wp2_with fail
       go_roundg g'
       case measure=>omega
       case rel=>exact ⟨pos + 1,by go_num,kb,HM,by omega,by omega⟩
     ·have hge:¬ (pos:Int) < (v.size:Int):=by omega
      have HUP:=Lib.hid (HSP.out.2 fun j hj=>HN.out j (by omega))
      clear HSP HN
      go_wp2_with fail
      go_loopg [97] u.size (fun gf s97 wx=>∃ pos:Nat,s97 = .int .i64 pos ∧ KB wx ∧ Hid (∀ j,j < pos → upsN (b u j) = true) ∧ u.size ≤ pos + gf ∧ pos ≤ u.size)
      case atStart=>exact ⟨0,rfl,kb,fun j hj=>by omega,by omega,by omega⟩
      case round =>
       obtain ⟨pos,rfl,kb,HN,hfu,hps⟩:=hrel
       by_cases hlt:pos < u.size
       ·obtain ⟨g',rfl⟩:∃ g',gk = g' + 1:=⟨gk - 1,by omega⟩
        have hlt':(pos:Int) < (u.size:Int):=by omega
        have hbc:=b_eq u pos hlt
        have hbl:=b_lt u pos
        have hm:upsN (b u pos) = true → ∀ j,j < pos + 1 → upsN (b u j) = true:=fun h=>more (p:=fun j=>upsN (b u j)) HN.out h
        have hbad:upsN (b u pos) = false → parse ls = none:=fun h=>up_no HUP.out fun k=>by have:=k.2.2 pos hlt; rw [h] at this; cases this
        have hsg:upsN (b u pos) = (alfN (b u pos) || digN (b u pos) || decide (b u pos = 43) || decide (b u pos = 46) || decide (b u pos = 126) || decide (b u pos = 45) || decide (b u pos = 58)):=rfl
        obtain ⟨c,hcc⟩:∃ c,b u pos = c:=⟨_,rfl⟩
        rw [hcc] at hbc hbl hbad hsg
        have HMM:Hid (upsN c = true → ∀ j,j < pos + 1 → upsN (b u j) = true):=by rw [← hcc]; exact hm
        have HBAD:=Lib.hid hbad
        clear hcc hm hbad HN
        have cl:=yletter_any c
        have cd:=ydigit_any c
        cases ha:alfN c
        ·rw [ha] at cl
         cases hd:digN c
         ·rw [hd] at cd
          by_cases hc3:c = 43 ∨ c = 46 ∨ c = 126 ∨ c = 45 ∨ c = 58
          ·have HM:=Lib.hid (HMM.out (by rw [hsg]; rcases hc3 with rfl | rfl | rfl | rfl | rfl <;> simp))
           clear HMM HBAD hsg ha hd
           rcases hc3 with rfl | rfl | rfl | rfl | rfl
           all_goals
            go_wp2_with fail
            refine (cl _).mono ?_
            rintro e w8 ⟨rfl,rfl⟩
            go_wp2_with fail
            refine (cd _).mono ?_
            rintro e w9 ⟨rfl,rfl⟩
            go_wp2_with fail
            go_roundg g'
            case measure=>omega
            case rel=>exact ⟨pos + 1,by go_num,kb,HM,by omega,by omega⟩
          ·obtain rfl:=ytold_no HRES.out (HBAD.out (by rw [hsg,ha,hd]; simp; omega))
           have q1:((c:Int) != 43) = true:=by simp; omega
           have q2:((c:Int) != 46) = true:=by simp; omega
           have q3:((c:Int) != 126) = true:=by simp; omega
           have q4:((c:Int) != 45) = true:=by simp; omega
           have q5:((c:Int) != 58) = true:=by simp; omega
           clear HMM HBAD hsg ha hd HRES HUP
           go_wp2_with fail
           refine (cl _).mono ?_
           rintro e w8 ⟨rfl,rfl⟩
           go_wp2_with fail
           refine (cd _).mono ?_
           rintro e w9 ⟨rfl,rfl⟩
           go_wp2_with fail
           refine bodyPost_ret (results_tmp4 rfl _ _ _) rfl ?_
           exact ⟨rfl,kb⟩
         ·rw [hd] at cd
          have HM:=Lib.hid (HMM.out (by rw [hsg,hd]; simp))
          clear HMM HBAD hsg ha hd
          go_wp2_with fail
          refine (cl _).mono ?_
          rintro e w8 ⟨rfl,rfl⟩
          go_wp2_with fail
          refine (cd _).mono ?_
          rintro e w9 ⟨rfl,rfl⟩
          go_wp2_with fail
          go_roundg g'
          case measure=>omega
          case rel=>exact ⟨pos + 1,by go_num,kb,HM,by omega,by omega⟩
        ·rw [ha] at cl
         have HM:=Lib.hid (HMM.out (by rw [hsg,ha]; simp))
         clear HMM HBAD hsg ha
         go_wp2_with fail
         refine (cl _).mono ?_
         rintro e w8 ⟨rfl,rfl⟩
         go_wp2_with fail
         go_roundg g'
         case measure=>omega
         case rel=>exact ⟨pos + 1,by go_num,kb,HM,by omega,by omega⟩
       ·have hge2:¬ (pos:Int) < (u.size:Int):=by omega
        have HALL:Hid (∀ j,j < u.size → upsN (b u j) = true):=fun j hj=>HN.out j (by omega)
        by_cases hu0:u.size = 0
        ·have hu0':(u.size:Int) = 0:=by omega
         obtain rfl:=ytold_no HRES.out (up_no HUP.out fun k=>by have:=k.1; omega)
         clear HRES HUP HALL HN
         go_wp2_with fail
         refine bodyPost_ret (results_tmp4 rfl _ _ _) rfl ?_
         exact ⟨rfl,kb⟩
        ·have hu0':((u.size:Int) == 0) = false:=by rw [beq_eq_false_iff_ne]; omega
         have hup:0 < u.size:=by omega
         have hup':(0:Int) < (u.size:Int):=by omega
         have hbc:=b_eq u 0 hup
         have hbl:=b_lt u 0
         have hyes:digN (b u 0) = true → parse ls = some (li (⟨#[48]⟩:ByteArray),li u,li v):=fun h=>up_yes HUP.out ⟨hup,h,HALL.out⟩
         have hno:digN (b u 0) = false → parse ls = none:=fun h=>up_no HUP.out fun k=>by have:=k.2.1; rw [h] at this; cases this
         obtain ⟨c,hcc⟩:∃ c,b u 0 = c:=⟨_,rfl⟩
         rw [hcc] at hbc hbl hyes hno
         clear hcc HUP HALL HN
         have cd:=ydigit_any c
         cases hd:digN c
         ·obtain rfl:=ytold_no HRES.out (hno hd)
          rw [hd] at cd
          clear hyes hno HRES hd
          go_wp2_with fail
          refine (cd _).mono ?_
          rintro e w9 ⟨rfl,rfl⟩
          go_wp2_with fail
          refine bodyPost_ret (results_tmp4 rfl _ _ _) rfl ?_
          exact ⟨rfl,kb⟩
         ·obtain rfl:=ytold_yes HRES.out (hyes hd)
          rw [hd] at cd
          clear hyes hno HRES hd
          go_wp2_with fail
          refine (cd _).mono ?_
          rintro e w9 ⟨rfl,rfl⟩
          go_wp2_with fail
          refine bodyPost_ret (results_tmp4 rfl _ _ _) rfl ?_
          exact ⟨rfl,kb⟩
 ·obtain ⟨m,hm⟩:∃ m,i + 1 = m:=⟨_,rfl⟩
  have hsum:(i:Int) + 1 = (m:Int):=by omega
  have hwr:IntKind.i64.wrap (m:Int) = (m:Int):=IntWalk.i64_in _ (by omega)
  rw [hm] at hc
  have j1:(i:Int) ≤ s.size:=by omega
  have j2:(m:Int) ≤ s.size:=by omega
  have e1:li (s.extract 0 i) = (li s).take i:=li_ext_zero s i (by omega)
  have e2:li (s.extract m s.size) = (li s).drop m:=li_ext_end s m
  rw [← e1,← e2,HLS.out] at hc
  have hep48:(s.extract 0 i).size ≤ 48:=by simp [ByteArray.size_extract]; omega
  have hr48:(s.extract m s.size).size ≤ 48:=by simp [ByteArray.size_extract]; omega
  have HC:=Lib.hid hc
  clear e1 e2 hc hm
  go_wp2_with fail
  go_quiet (fail)
  have kb:=kd _ nq kb
  generalize w1.drewN nq = w3 at *
  generalize s.extract 0 i = ep at *
  generalize s.extract m s.size = r at *
  have hef:epF ls = (li ep,li r,decide (1 ≤ (li ep).length ∧ (li ep).length ≤ 9 ∧ (li ep).all dig = true)):=by
   unfold epF; rw [HC.out]
  have HEF:=Lib.hid hef
  clear HC hef
  by_cases h9:ep.size < 1 ∨ 9 < ep.size
  ·have hno:parse ls = none:=parse_ep (by rw [HEF.out]; exact decide_eq_false fun k=>by rw [li_len] at k; omega)
   obtain rfl:=ytold_no HRES.out hno
   clear HRES HEF HL hno
   rcases h9 with h | h
   ·have h':(ep.size:Int) < 1:=by omega
    go_wp2_with fail
    refine bodyPost_ret (results_tmp4 rfl _ _ _) rfl ?_
    exact ⟨rfl,kb⟩
   ·have h':¬ (ep.size:Int) < 1:=by omega
    have h3:9 < (ep.size:Int):=by omega
    go_wp2_with fail
    refine bodyPost_ret (results_tmp4 rfl _ _ _) rfl ?_
    exact ⟨rfl,kb⟩
  ·have h':¬ (ep.size:Int) < 1:=by omega
   have h3:¬ 9 < (ep.size:Int):=by omega
   go_wp2_with fail
   go_loopg [44] ep.size (fun gf s44 wx=>∃ pos:Nat,s44 = .int .i64 pos ∧ KB wx ∧ Hid (∀ j,j < pos → digN (b ep j) = true) ∧ ep.size ≤ pos + gf ∧ pos ≤ ep.size)
   case atStart=>exact ⟨0,rfl,kb,fun j hj=>by omega,by omega,by omega⟩
   case round =>
    obtain ⟨pos,rfl,kb,HN,hfu,hps⟩:=hrel
    by_cases hlt:pos < ep.size
    ·obtain ⟨g',rfl⟩:∃ g',gk = g' + 1:=⟨gk - 1,by omega⟩
     have hlt':(pos:Int) < (ep.size:Int):=by omega
     have hbc:=b_eq ep pos hlt
     have hbl:=b_lt ep pos
     have hm:digN (b ep pos) = true → ∀ j,j < pos + 1 → digN (b ep j) = true:=fun h=>more (p:=fun j=>digN (b ep j)) HN.out h
     have hbad:digN (b ep pos) = false → parse ls = none:=fun h=>parse_ep (by rw [HEF.out]; exact decide_eq_false fun k=>by have:=(all_bytes dig digN dig_n ep).1 k.2.2 pos hlt; rw [h] at this; cases this)
     obtain ⟨c,hcc⟩:∃ c,b ep pos = c:=⟨_,rfl⟩
     rw [hcc] at hbc hbl hbad
     have HMM:Hid (digN c = true → ∀ j,j < pos + 1 → digN (b ep j) = true):=by rw [← hcc]; exact hm
     have HBAD:=Lib.hid hbad
     clear hcc hm hbad HN
     have cd:=ydigit_any c
     cases hd:digN c
     ·rw [hd] at cd
      obtain rfl:=ytold_no HRES.out (HBAD.out hd)
      clear HMM HBAD hd HRES HEF HL
      go_wp2_with fail
      refine (cd _).mono ?_
      rintro e w9 ⟨rfl,rfl⟩
      go_wp2_with fail
      refine bodyPost_ret (results_tmp4 rfl _ _ _) rfl ?_
      exact ⟨rfl,kb⟩
     ·rw [hd] at cd
      have HM:=Lib.hid (HMM.out hd)
      clear HMM HBAD hd
      go_wp2_with fail
      refine (cd _).mono ?_
      rintro e w9 ⟨rfl,rfl⟩
      go_wp2_with fail
      go_roundg g'
      case measure=>omega
      case rel=>exact ⟨pos + 1,by go_num,kb,HM,by omega,by omega⟩
    ·have hge:¬ (pos:Int) < (ep.size:Int):=by omega
     have hep:epF ls = (li ep,li r,true):=by
      rw [HEF.out]
      congr 2
      exact decide_eq_true ⟨by rw [li_len]; omega,by rw [li_len]; omega,(all_bytes dig digN dig_n ep).2 fun j hj=>HN.out j (by omega)⟩
     have HEP:=Lib.hid hep
     clear hep HEF HN
     have cz:=fun w=>ylast_any r 45 w (by omega)
     go_wp2_with fail
     refine (cz _).mono ?_
     rintro e w2 ⟨k,rfl,hk,rfl⟩
     clear cz
     rcases hk with ⟨rfl,hcz⟩ | ⟨i2,rfl,hi2,hcz⟩
     ·have HSP:=Lib.hid (split_none HL.out HEP.out hcz)
      clear hcz HEP HL
      have HUP:=Lib.hid (HSP.out.2 fun j hj=>absurd hj (Nat.not_lt_zero j))
      clear HSP
      obtain ⟨u,hu⟩:∃ u,u = r:=⟨_,rfl⟩
      subst hu
      have hu48:=hr48
      go_wp2_with fail
      go_loopg [68] 0 (fun gf s68 wx=>s68 = .int .i64 0 ∧ KB wx)
      case atStart=>exact ⟨rfl,kb⟩
      case round =>
       obtain ⟨rfl,kb⟩:=hrel
       go_wp2_with fail
       go_loopg [97] u.size (fun gf s97 wx=>∃ pos:Nat,s97 = .int .i64 pos ∧ KB wx ∧ Hid (∀ j,j < pos → upsN (b u j) = true) ∧ u.size ≤ pos + gf ∧ pos ≤ u.size)
       case atStart=>exact ⟨0,rfl,kb,fun j hj=>by omega,by omega,by omega⟩
       case round =>
        obtain ⟨pos,rfl,kb,HN,hfu,hps⟩:=hrel
        by_cases hlt:pos < u.size
        ·obtain ⟨g',rfl⟩:∃ g',gk = g' + 1:=⟨gk - 1,by omega⟩
         have hlt':(pos:Int) < (u.size:Int):=by omega
         have hbc:=b_eq u pos hlt
         have hbl:=b_lt u pos
         have hm:upsN (b u pos) = true → ∀ j,j < pos + 1 → upsN (b u j) = true:=fun h=>more (p:=fun j=>upsN (b u j)) HN.out h
         have hbad:upsN (b u pos) = false → parse ls = none:=fun h=>up_no HUP.out fun k=>by have:=k.2.2 pos hlt; rw [h] at this; cases this
         have hsg:upsN (b u pos) = (alfN (b u pos) || digN (b u pos) || decide (b u pos = 43) || decide (b u pos = 46) || decide (b u pos = 126) || decide (b u pos = 45) || decide (b u pos = 58)):=rfl
         obtain ⟨c,hcc⟩:∃ c,b u pos = c:=⟨_,rfl⟩
         rw [hcc] at hbc hbl hbad hsg
         have HMM:Hid (upsN c = true → ∀ j,j < pos + 1 → upsN (b u j) = true):=by rw [← hcc]; exact hm
         have HBAD:=Lib.hid hbad
         clear hcc hm hbad HN
         have cl:=yletter_any c
         have cd:=ydigit_any c
         cases ha:alfN c
         ·rw [ha] at cl
          cases hd:digN c
          ·rw [hd] at cd
           by_cases hc3:c = 43 ∨ c = 46 ∨ c = 126 ∨ c = 45 ∨ c = 58
           ·have HM:=Lib.hid (HMM.out (by rw [hsg]; rcases hc3 with rfl | rfl | rfl | rfl | rfl <;> simp))
            clear HMM HBAD hsg ha hd
            rcases hc3 with rfl | rfl | rfl | rfl | rfl
            all_goals
             go_wp2_with fail
             refine (cl _).mono ?_
             rintro e w8 ⟨rfl,rfl⟩
             go_wp2_with fail
             refine (cd _).mono ?_
             rintro e w9 ⟨rfl,rfl⟩
             go_wp2_with fail
             go_roundg g'
             case measure=>omega
             case rel=>exact ⟨pos + 1,by go_num,kb,HM,by omega,by omega⟩
           ·obtain rfl:=ytold_no HRES.out (HBAD.out (by rw [hsg,ha,hd]; simp; omega))
            have q1:((c:Int) != 43) = true:=by simp; omega
            have q2:((c:Int) != 46) = true:=by simp; omega
            have q3:((c:Int) != 126) = true:=by simp; omega
            have q4:((c:Int) != 45) = true:=by simp; omega
            have q5:((c:Int) != 58) = true:=by simp; omega
            clear HMM HBAD hsg ha hd HRES HUP
            go_wp2_with fail
            refine (cl _).mono ?_
            rintro e w8 ⟨rfl,rfl⟩
            go_wp2_with fail
            refine (cd _).mono ?_
            rintro e w9 ⟨rfl,rfl⟩
            go_wp2_with fail
            refine bodyPost_ret (results_tmp4 rfl _ _ _) rfl ?_
            exact ⟨rfl,kb⟩
          ·rw [hd] at cd
           have HM:=Lib.hid (HMM.out (by rw [hsg,hd]; simp))
           clear HMM HBAD hsg ha hd
           go_wp2_with fail
           refine (cl _).mono ?_
           rintro e w8 ⟨rfl,rfl⟩
           go_wp2_with fail
           refine (cd _).mono ?_
           rintro e w9 ⟨rfl,rfl⟩
           go_wp2_with fail
           go_roundg g'
           case measure=>omega
           case rel=>exact ⟨pos + 1,by go_num,kb,HM,by omega,by omega⟩
         ·rw [ha] at cl
          have HM:=Lib.hid (HMM.out (by rw [hsg,ha]; simp))
          clear HMM HBAD hsg ha
          go_wp2_with fail
          refine (cl _).mono ?_
          rintro e w8 ⟨rfl,rfl⟩
          go_wp2_with fail
          go_roundg g'
          case measure=>omega
          case rel=>exact ⟨pos + 1,by go_num,kb,HM,by omega,by omega⟩
        ·have hge2:¬ (pos:Int) < (u.size:Int):=by omega
         have HALL:Hid (∀ j,j < u.size → upsN (b u j) = true):=fun j hj=>HN.out j (by omega)
         by_cases hu0:u.size = 0
         ·have hu0':(u.size:Int) = 0:=by omega
          obtain rfl:=ytold_no HRES.out (up_no HUP.out fun k=>by have:=k.1; omega)
          clear HRES HUP HALL HN
          go_wp2_with fail
          refine bodyPost_ret (results_tmp4 rfl _ _ _) rfl ?_
          exact ⟨rfl,kb⟩
         ·have hu0':((u.size:Int) == 0) = false:=by rw [beq_eq_false_iff_ne]; omega
          have hup:0 < u.size:=by omega
          have hup':(0:Int) < (u.size:Int):=by omega
          have hbc:=b_eq u 0 hup
          have hbl:=b_lt u 0
          have hyes:digN (b u 0) = true → parse ls = some (li ep,li u,li (⟨#[]⟩:ByteArray)):=fun h=>up_yes HUP.out ⟨hup,h,HALL.out⟩
          have hno:digN (b u 0) = false → parse ls = none:=fun h=>up_no HUP.out fun k=>by have:=k.2.1; rw [h] at this; cases this
          obtain ⟨c,hcc⟩:∃ c,b u 0 = c:=⟨_,rfl⟩
          rw [hcc] at hbc hbl hyes hno
          clear hcc HUP HALL HN
          have cd:=ydigit_any c
          cases hd:digN c
          ·obtain rfl:=ytold_no HRES.out (hno hd)
           rw [hd] at cd
           clear hyes hno HRES hd
           go_wp2_with fail
           refine (cd _).mono ?_
           rintro e w9 ⟨rfl,rfl⟩
           go_wp2_with fail
           refine bodyPost_ret (results_tmp4 rfl _ _ _) rfl ?_
           exact ⟨rfl,kb⟩
          ·obtain rfl:=ytold_yes HRES.out (hyes hd)
           rw [hd] at cd
           clear hyes hno HRES hd
           go_wp2_with fail
           refine (cd _).mono ?_
           rintro e w9 ⟨rfl,rfl⟩
           go_wp2_with fail
           refine bodyPost_ret (results_tmp4 rfl _ _ _) rfl ?_
           exact ⟨rfl,kb⟩
     ·obtain ⟨m2,hm2⟩:∃ m2,i2 + 1 = m2:=⟨_,rfl⟩
      have hsum2:(i2:Int) + 1 = (m2:Int):=by omega
      have hwr2:IntKind.i64.wrap (m2:Int) = (m2:Int):=IntWalk.i64_in _ (by omega)
      rw [hm2] at hcz
      have j1:(i2:Int) ≤ r.size:=by omega
      have j2:(m2:Int) ≤ r.size:=by omega
      have e1:li (r.extract 0 i2) = (li r).take i2:=li_ext_zero r i2 (by omega)
      have e2:li (r.extract m2 r.size) = (li r).drop m2:=li_ext_end r m2
      rw [← e1,← e2] at hcz
      have hu48:(r.extract 0 i2).size ≤ 48:=by simp [ByteArray.size_extract]; omega
      have hv48:(r.extract m2 r.size).size ≤ 48:=by simp [ByteArray.size_extract]; omega
      have HCZ:=Lib.hid hcz
      clear e1 e2 hcz hm2
      go_wp2_with fail
      go_quiet (fail)
      have kb:=kd _ nq kb
      generalize w2.drewN nq = w3 at *
      generalize r.extract 0 i2 = u at *
      generalize r.extract m2 r.size = v at *
      by_cases hv0:v.size = 0
      ·obtain ⟨hve,_⟩:=empty_is hv0
       obtain rfl:=ytold_no HRES.out (split_empty HEP.out HCZ.out hv0)
       clear HRES HCZ HEP HL
       go_wp2_with fail
       refine bodyPost_ret (results_tmp4 rfl _ _ _) rfl ?_
       exact ⟨rfl,kb⟩
      ·obtain ⟨hve,_⟩:=empty_no hv0
       have HSP:=Lib.hid (split_some HL.out HEP.out HCZ.out hv0)
       clear HCZ HEP HL
       go_wp2_with fail
       go_loopg [68] v.size (fun gf s68 wx=>∃ pos:Nat,s68 = .int .i64 pos ∧ KB wx ∧ Hid (∀ j,j < pos → sigN (b v j) = true) ∧ v.size ≤ pos + gf ∧ pos ≤ v.size)
       case atStart=>exact ⟨0,rfl,kb,fun j hj=>by omega,by omega,by omega⟩
       case round =>
        obtain ⟨pos,rfl,kb,HN,hfu,hps⟩:=hrel
        by_cases hlt:pos < v.size
        ·obtain ⟨g',rfl⟩:∃ g',gk = g' + 1:=⟨gk - 1,by omega⟩
         have hlt':(pos:Int) < (v.size:Int):=by omega
         have hbc:=b_eq v pos hlt
         have hbl:=b_lt v pos
         have hm:sigN (b v pos) = true → ∀ j,j < pos + 1 → sigN (b v j) = true:=fun h=>more (p:=fun j=>sigN (b v j)) HN.out h
         have hbad:sigN (b v pos) = false → parse ls = none:=fun h=>HSP.out.1 pos hlt h
         have hsg:sigN (b v pos) = (alfN (b v pos) || digN (b v pos) || decide (b v pos = 43) || decide (b v pos = 46) || decide (b v pos = 126)):=rfl
         obtain ⟨c,hcc⟩:∃ c,b v pos = c:=⟨_,rfl⟩
         rw [hcc] at hbc hbl hbad hsg
         have HMM:Hid (sigN c = true → ∀ j,j < pos + 1 → sigN (b v j) = true):=by rw [← hcc]; exact hm
         have HBAD:=Lib.hid hbad
         clear hcc hm hbad HN
         have cl:=yletter_any c
         have cd:=ydigit_any c
         cases ha:alfN c
         ·rw [ha] at cl
          cases hd:digN c
          ·rw [hd] at cd
           by_cases hc3:c = 43 ∨ c = 46 ∨ c = 126
           ·have HM:=Lib.hid (HMM.out (by rw [hsg]; rcases hc3 with rfl | rfl | rfl <;> simp))
            clear HMM HBAD hsg ha hd
            rcases hc3 with rfl | rfl | rfl
            all_goals
             go_wp2_with fail
             refine (cl _).mono ?_
             rintro e w8 ⟨rfl,rfl⟩
             go_wp2_with fail
             refine (cd _).mono ?_
             rintro e w9 ⟨rfl,rfl⟩
             go_wp2_with fail
             go_roundg g'
             case measure=>omega
             case rel=>exact ⟨pos + 1,by go_num,kb,HM,by omega,by omega⟩
           ·obtain rfl:=ytold_no HRES.out (HBAD.out (by rw [hsg,ha,hd]; simp; omega))
            have q1:((c:Int) != 43) = true:=by simp; omega
            have q2:((c:Int) != 46) = true:=by simp; omega
            have q3:((c:Int) != 126) = true:=by simp; omega
            clear HMM HBAD hsg ha hd HRES HSP
            go_wp2_with fail
            refine (cl _).mono ?_
            rintro e w8 ⟨rfl,rfl⟩
            go_wp2_with fail
            refine (cd _).mono ?_
            rintro e w9 ⟨rfl,rfl⟩
            go_wp2_with fail
            refine bodyPost_ret (results_tmp4 rfl _ _ _) rfl ?_
            exact ⟨rfl,kb⟩
          ·rw [hd] at cd
           have HM:=Lib.hid (HMM.out (by rw [hsg,hd]; simp))
           clear HMM HBAD hsg ha hd
           go_wp2_with fail
           refine (cl _).mono ?_
           rintro e w8 ⟨rfl,rfl⟩
           go_wp2_with fail
           refine (cd _).mono ?_
           rintro e w9 ⟨rfl,rfl⟩
           go_wp2_with fail
           go_roundg g'
           case measure=>omega
           case rel=>exact ⟨pos + 1,by go_num,kb,HM,by omega,by omega⟩
         ·rw [ha] at cl
          have HM:=Lib.hid (HMM.out (by rw [hsg,ha]; simp))
          clear HMM HBAD hsg ha
          go_wp2_with fail
          refine (cl _).mono ?_
          rintro e w8 ⟨rfl,rfl⟩
          go_wp2_with fail
          go_roundg g'
          case measure=>omega
          case rel=>exact ⟨pos + 1,by go_num,kb,HM,by omega,by omega⟩
        ·have hge:¬ (pos:Int) < (v.size:Int):=by omega
         have HUP:=Lib.hid (HSP.out.2 fun j hj=>HN.out j (by omega))
         clear HSP HN
         go_wp2_with fail
         go_loopg [97] u.size (fun gf s97 wx=>∃ pos:Nat,s97 = .int .i64 pos ∧ KB wx ∧ Hid (∀ j,j < pos → upsN (b u j) = true) ∧ u.size ≤ pos + gf ∧ pos ≤ u.size)
         case atStart=>exact ⟨0,rfl,kb,fun j hj=>by omega,by omega,by omega⟩
         case round =>
          obtain ⟨pos,rfl,kb,HN,hfu,hps⟩:=hrel
          by_cases hlt:pos < u.size
          ·obtain ⟨g',rfl⟩:∃ g',gk = g' + 1:=⟨gk - 1,by omega⟩
           have hlt':(pos:Int) < (u.size:Int):=by omega
           have hbc:=b_eq u pos hlt
           have hbl:=b_lt u pos
           have hm:upsN (b u pos) = true → ∀ j,j < pos + 1 → upsN (b u j) = true:=fun h=>more (p:=fun j=>upsN (b u j)) HN.out h
           have hbad:upsN (b u pos) = false → parse ls = none:=fun h=>up_no HUP.out fun k=>by have:=k.2.2 pos hlt; rw [h] at this; cases this
           have hsg:upsN (b u pos) = (alfN (b u pos) || digN (b u pos) || decide (b u pos = 43) || decide (b u pos = 46) || decide (b u pos = 126) || decide (b u pos = 45) || decide (b u pos = 58)):=rfl
           obtain ⟨c,hcc⟩:∃ c,b u pos = c:=⟨_,rfl⟩
           rw [hcc] at hbc hbl hbad hsg
           have HMM:Hid (upsN c = true → ∀ j,j < pos + 1 → upsN (b u j) = true):=by rw [← hcc]; exact hm
           have HBAD:=Lib.hid hbad
           clear hcc hm hbad HN
           have cl:=yletter_any c
           have cd:=ydigit_any c
           cases ha:alfN c
           ·rw [ha] at cl
            cases hd:digN c
            ·rw [hd] at cd
             by_cases hc3:c = 43 ∨ c = 46 ∨ c = 126 ∨ c = 45 ∨ c = 58
             ·have HM:=Lib.hid (HMM.out (by rw [hsg]; rcases hc3 with rfl | rfl | rfl | rfl | rfl <;> simp))
              clear HMM HBAD hsg ha hd
              rcases hc3 with rfl | rfl | rfl | rfl | rfl
              all_goals
               go_wp2_with fail
               refine (cl _).mono ?_
               rintro e w8 ⟨rfl,rfl⟩
               go_wp2_with fail
               refine (cd _).mono ?_
               rintro e w9 ⟨rfl,rfl⟩
               go_wp2_with fail
               go_roundg g'
               case measure=>omega
               case rel=>exact ⟨pos + 1,by go_num,kb,HM,by omega,by omega⟩
             ·obtain rfl:=ytold_no HRES.out (HBAD.out (by rw [hsg,ha,hd]; simp; omega))
              have q1:((c:Int) != 43) = true:=by simp; omega
              have q2:((c:Int) != 46) = true:=by simp; omega
              have q3:((c:Int) != 126) = true:=by simp; omega
              have q4:((c:Int) != 45) = true:=by simp; omega
              have q5:((c:Int) != 58) = true:=by simp; omega
              clear HMM HBAD hsg ha hd HRES HUP
              go_wp2_with fail
              refine (cl _).mono ?_
              rintro e w8 ⟨rfl,rfl⟩
              go_wp2_with fail
              refine (cd _).mono ?_
              rintro e w9 ⟨rfl,rfl⟩
              go_wp2_with fail
              refine bodyPost_ret (results_tmp4 rfl _ _ _) rfl ?_
              exact ⟨rfl,kb⟩
            ·rw [hd] at cd
             have HM:=Lib.hid (HMM.out (by rw [hsg,hd]; simp))
             clear HMM HBAD hsg ha hd
             go_wp2_with fail
             refine (cl _).mono ?_
             rintro e w8 ⟨rfl,rfl⟩
             go_wp2_with fail
             refine (cd _).mono ?_
             rintro e w9 ⟨rfl,rfl⟩
             go_wp2_with fail
             go_roundg g'
             case measure=>omega
             case rel=>exact ⟨pos + 1,by go_num,kb,HM,by omega,by omega⟩
           ·rw [ha] at cl
            have HM:=Lib.hid (HMM.out (by rw [hsg,ha]; simp))
            clear HMM HBAD hsg ha
            go_wp2_with fail
            refine (cl _).mono ?_
            rintro e w8 ⟨rfl,rfl⟩
            go_wp2_with fail
            go_roundg g'
            case measure=>omega
            case rel=>exact ⟨pos + 1,by go_num,kb,HM,by omega,by omega⟩
          ·have hge2:¬ (pos:Int) < (u.size:Int):=by omega
           have HALL:Hid (∀ j,j < u.size → upsN (b u j) = true):=fun j hj=>HN.out j (by omega)
           by_cases hu0:u.size = 0
           ·have hu0':(u.size:Int) = 0:=by omega
            obtain rfl:=ytold_no HRES.out (up_no HUP.out fun k=>by have:=k.1; omega)
            clear HRES HUP HALL HN
            go_wp2_with fail
            refine bodyPost_ret (results_tmp4 rfl _ _ _) rfl ?_
            exact ⟨rfl,kb⟩
           ·have hu0':((u.size:Int) == 0) = false:=by rw [beq_eq_false_iff_ne]; omega
            have hup:0 < u.size:=by omega
            have hup':(0:Int) < (u.size:Int):=by omega
            have hbc:=b_eq u 0 hup
            have hbl:=b_lt u 0
            have hyes:digN (b u 0) = true → parse ls = some (li ep,li u,li v):=fun h=>up_yes HUP.out ⟨hup,h,HALL.out⟩
            have hno:digN (b u 0) = false → parse ls = none:=fun h=>up_no HUP.out fun k=>by have:=k.2.1; rw [h] at this; cases this
            obtain ⟨c,hcc⟩:∃ c,b u 0 = c:=⟨_,rfl⟩
            rw [hcc] at hbc hbl hyes hno
            clear hcc HUP HALL HN
            have cd:=ydigit_any c
            cases hd:digN c
            ·obtain rfl:=ytold_no HRES.out (hno hd)
             rw [hd] at cd
             clear hyes hno HRES hd
             go_wp2_with fail
             refine (cd _).mono ?_
             rintro e w9 ⟨rfl,rfl⟩
             go_wp2_with fail
             refine bodyPost_ret (results_tmp4 rfl _ _ _) rfl ?_
             exact ⟨rfl,kb⟩
            ·obtain rfl:=ytold_yes HRES.out (hyes hd)
             rw [hd] at cd
             clear hyes hno HRES hd
             go_wp2_with fail
             refine (cd _).mono ?_
             rintro e w9 ⟨rfl,rfl⟩
             go_wp2_with fail
             refine bodyPost_ret (results_tmp4 rfl _ _ _) rfl ?_
             exact ⟨rfl,kb⟩
theorem yversion_any (s:ByteArray) (w:World) (hs:s.size ≤ 4611686018427387904) :
  Calls Tryz.prog 76 #[.string s] w fun e w'=>e = .returned (ytold (parse (li s))) ∧ Below w.heap.size w w' :=
 yversion_gen s w hs (fun u=>Below w.heap.size w u) (Below.refl _ _) fun u n h=>h.trans ((below_drewN _ _).mono h.size)
end Ver
end Go.Proofs.YtmhpjjjjgakpiaaGreatDoor

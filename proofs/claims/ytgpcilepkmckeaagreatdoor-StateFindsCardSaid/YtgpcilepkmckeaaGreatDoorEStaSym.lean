/-
The stable sort's symMerge at entries, at any cells.
-/
import Derived.Test.YtgpcilepkmckeaaGreatDoorEStaSwap
import Derived.Deep.DeepCutAuto
namespace Go.Proofs.YtgpcilepkmckeaaGreatDoor
open Go.RowKit Go.Shelf Go.Lib Go.Sort
set_option linter.unusedSimpArgs false
set_option linter.unusedVariables false
namespace Sa
variable {P:Program} {α:Type} [Inhabited α] {k:Nat}
set_option maxHeartbeats 8000000 in
set_option maxRecDepth 1000000 in
theorem symMerge_any (Q:Sb P k) (enc:α → List Value) (cf:α → α → Int) (hO:Hid (SWO (ltOf cf))) (tg:α → Nat) (g:Nat) (cb:Array Value) (blk off cap sz:Nat) (d0:Array α) (w0:World)
  (eg:∀ args w,(callFunc g args).run P w = .ok (.enter g args) w) (hcmp:CmpLays P g cb enc k cf blk off d0.size w0) (R:RowK enc k w0 blk off d0) (hs0:d0.size = sz) (hsz:sz < 4611686018427387904) :
  ∀ (N a m b:Nat) (d:Array α) (w:World),b - a < N → d.size = sz → SWK enc k w0 blk off d w → a < m → m < b → b ≤ sz → Rise (ltOf cf) tg a m d → Rise (ltOf cf) tg m b d → Tags tg a m b d →
  Calls P 75 #[.slice (some ⟨blk,off,none⟩) sz cap,.int .i64 a,.int .i64 m,.int .i64 b,.func (.func g) #[] cb] w fun e w' =>
   e = .returned (.tuple #[]) ∧ ∃ d',SWK enc k w0 blk off d' w' ∧ PermIn a b d d' ∧ Rise (ltOf cf) tg a b d':=by
 have mixed:=Q.mixed; have t0:=Q.t0; have a0:=Q.a0; have z0:=Q.z0; have v0:=Q.v0; have t3:=Q.t3; have a3:=Q.a3; have z3:=Q.z3; have v3:=Q.v3; have t4:=Q.t4; have a4:=Q.a4; have z4:=Q.z4; have v4:=Q.v4; have t22:=Q.t22; have a22:=Q.a22; have z22:=Q.z22; have v22:=Q.v22; have t95:=Q.t95; have a95:=Q.a95; have z95:=Q.z95; have aE:=Q.aE; have zE:=Q.zE
 have FG:=Q.fSym
 have eR:∀ args w,(callFunc 109 args).run P w = .ok (.enter 109 args) w:=enters_of Q.fRot (by kernel_rfl) rfl
 have eM:∀ args w,(callFunc 75 args).run P w = .ok (.enter 75 args) w:=enters_of Q.fSym (by kernel_rfl) rfl
 have RR:Hid (RowK enc k w0 blk off d0):=R
 have HD0:Hid (d0.size = sz):=hs0
 have HC:Hid (CmpLays P g cb enc k cf blk off d0.size w0):=hcmp
 have QQ:Hid (Sb P k):=Q
 clear R hs0 Q hcmp
 intro N
 induction N with
 | zero=>intro _ _ _ _ _ h; exact absurd h (Nat.not_lt_zero _)
 | succ N ih =>
  intro a m b d w hN hs S ham hmb hb hL hR hT
  have SS:Hid (SWK enc k w0 blk off d w):=S
  have HD:Hid (d.size = sz):=hs
  have HL:Hid (Rise (ltOf cf) tg a m d):=hL
  have HR:Hid (Rise (ltOf cf) tg m b d):=hR
  have HT:Hid (Tags tg a m b d):=hT
  have IH:Hid _:=ih
  clear S hs hL hR hT ih
  go_enter FG,Tryz.ntmps75
  by_cases h1:m = a + 1
  ·clear IH
   have w1:IntKind.i64.wrap ((m:Int) - (a:Int)) = 1:=by rw [IntKind.wrap_i64]; omega
   have H1:Hid (m = a + 1):=h1
   have hma:a < m:=by omega
   clear h1
   go_wp2_with fail
   go_loopg [10,11] (b - m) (fun g1 vi vj wr=>∃ i j:Nat,vi = .int .i64 i ∧ vj = .int .i64 j ∧ m ≤ i ∧ i ≤ j ∧ j ≤ b ∧ j - i ≤ g1 ∧ Hid (SWK enc k w0 blk off d wr) ∧ Hid (∀ h,m ≤ h → h < i → ltOf cf d[h]! d[a]! = true) ∧ Hid (∀ h,j ≤ h → h < b → ltOf cf d[h]! d[a]! = false))
   case atStart=>exact ⟨m,b,rfl,rfl,Nat.le_refl _,by omega,Nat.le_refl _,Nat.le_refl _,SS,fun h h1 h2=>absurd h1 (by omega),fun h h1 h2=>absurd h1 (by omega)⟩
   case round =>
    clear w1
    obtain ⟨i,j,rfl,rfl,hmi,hij,hjb,hg1,SK,LO,HI⟩:=hrel
    by_cases hlt:i < j
    ·have hltz:(i:Int) < (j:Int):=by omega
     obtain ⟨q,hq⟩:∃ q,(i + j) / 2 = q:=⟨_,rfl⟩
     have hmid:((i:Int) + (j:Int)) / 2 = (q:Int):=by omega
     have hqi:i ≤ q:=by omega
     have hqj:q < j:=by omega
     have hs0k:d.size = d0.size:=by rw [HD.out,HD0.out]
     have hdd:=HD.out
     clear hq
     obtain ⟨xx,hxx⟩:∃ x,d[q]! = x:=⟨_,rfl⟩
     obtain ⟨yy,hyy⟩:∃ x,d[a]! = x:=⟨_,rfl⟩
     have bx:(q:Int) < (sz:Int):=by omega
     have px:(0:Int) ≤ (q:Int):=by omega
     have ex:(q:Int).toNat = q:=by omega
     have bY:(a:Int) < (sz:Int):=by omega
     have py:(0:Int) ≤ (a:Int):=by omega
     have ey:(a:Int).toNat = a:=by omega
     have lx:=SK.out.ld RR.out hs0k P q (by omega)
     have ly:=SK.out.ld RR.out hs0k P a (by omega)
     have hcc:=SK.out.cmp HC.out hs0k xx yy
     rw [hxx] at lx
     rw [hyy] at ly
     have HXY:Hid (d[q]! = xx ∧ d[a]! = yy):=⟨hxx,hyy⟩
     clear hxx hyy
     by_cases hlv:cf xx yy < 0
     ·have LV:Hid (ltOf cf d[q]! d[a]! = true):=by show _ = _; rw [HXY.out.1,HXY.out.2]; exact decide_eq_true hlv
      have hdv:decide (cf xx yy < 0) = true:=decide_eq_true hlv
      clear HXY
      go_wp2_with fail
      go_quiet_grown (first | (go_at_fn g; refine Calls.grown_of (hcc _ _)))
      have SV:Hid (SWK enc k w0 blk off d (grow (wr.drewN nq) osq)):=SK.out.grown nq osq
      clear lx ly hcc SK bx px ex bY py ey
      generalize grow (wr.drewN nq) osq = wv at SV ⊢
      clear nq osq
      go_wp2_with fail
      go_roundg (j - (q + 1))
      case measure=>omega
      case rel =>
       refine ⟨q + 1,j,by go_num,rfl,by omega,by omega,hjb,Nat.le_refl _,SV,(fun h h1 h2=>?_:∀ h,m ≤ h → h < q + 1 → ltOf cf d[h]! d[a]! = true),HI⟩
       by_cases e:h = q
       ·subst e; exact LV.out
       ·exact lt_low (ltOf cf) tg hO.out (HR.out h q h1 (by omega) (by omega)) LV.out

     ·have LV:Hid (ltOf cf d[q]! d[a]! = false):=by show _ = _; rw [HXY.out.1,HXY.out.2]; exact decide_eq_false hlv
      have hdv:decide (cf xx yy < 0) = false:=decide_eq_false hlv
      clear HXY
      go_wp2_with fail
      go_quiet_grown (first | (go_at_fn g; refine Calls.grown_of (hcc _ _)))
      have SV:Hid (SWK enc k w0 blk off d (grow (wr.drewN nq) osq)):=SK.out.grown nq osq
      clear lx ly hcc SK bx px ex bY py ey
      generalize grow (wr.drewN nq) osq = wv at SV ⊢
      clear nq osq
      go_wp2_with fail
      go_roundg (q - i)
      case measure=>omega
      case rel =>
       refine ⟨i,q,rfl,rfl,hmi,hqi,by omega,Nat.le_refl _,SV,LO,(fun h h1 h2=>?_:∀ h,q ≤ h → h < b → ltOf cf d[h]! d[a]! = false)⟩
       by_cases e:h = q
       ·subst e; exact LV.out
       ·exact nlt_high (ltOf cf) tg hO.out (HR.out q h (by omega) (by omega) (by omega)) LV.out

    ·obtain rfl:i = j:=by omega
     have hltz:¬ (i:Int) < (i:Int):=by omega
     clear hlt hij
     have w2:IntKind.i64.wrap ((i:Int) - 1) = (i:Int) - 1:=by rw [IntKind.wrap_i64]; omega
     go_wp2_with fail
     go_loopg [13] (b - a) (fun g2 vk wr=>∃ (q:Nat) (dk:Array α),vk = .int .i64 q ∧ a ≤ q ∧ q + 1 ≤ i ∧ i ≤ q + 1 + g2 ∧ Hid (SWK enc k w0 blk off dk wr) ∧ Hid (RotOf a (a + 1) (q + 1) d dk))
     case atStart=>exact ⟨a,d,rfl,Nat.le_refl _,by omega,by omega,SK,rot_none _ _ _ _ (Or.inr rfl) ⟨by omega,by omega⟩⟩
     case round =>
      clear SK
      obtain ⟨q,dk,rfl,haq,hqi,hg2,SK,HR2⟩:=hrel
      by_cases hlt:q + 1 < i
      ·have hltz:(q:Int) < (i:Int) - 1:=by omega
       have hsk:dk.size = sz:=by rw [HR2.out.1]; exact HD.out
       have hs0k:dk.size = d0.size:=by rw [hsk,HD0.out]
       obtain ⟨r,hr⟩:∃ r,q + 1 = r:=⟨_,rfl⟩
       have wr1:IntKind.i64.wrap ((q:Int) + 1) = (r:Int):=by rw [IntKind.wrap_i64]; omega
       have HRQ:Hid (q + 1 = r):=hr
       have hrs:r < sz:=by omega
       have hqs:q < sz:=by omega
       obtain ⟨xi,hxi⟩:∃ x,dk[q]! = x:=⟨_,rfl⟩
       obtain ⟨xj,hxj⟩:∃ x,dk[r]! = x:=⟨_,rfl⟩
       have bx:(q:Int) < (sz:Int):=by omega
       have px:(0:Int) ≤ (q:Int):=by omega
       have ex:(q:Int).toNat = q:=by omega
       have bY:(r:Int) < (sz:Int):=by omega
       have py:(0:Int) ≤ (r:Int):=by omega
       have ey:(r:Int).toNat = r:=by omega
       have li:=SK.out.ld1 RR.out hs0k P q (by omega)
       have lj:=SK.out.ld1 RR.out hs0k P r (by omega)
       have s1:=SK.out.st1 RR.out hs0k P q (by omega) xj
       have s2:=SK.out.st2 RR.out hs0k P q r (by omega) (by omega) xj xi
       have SW:Hid _:=SK.out.swapped RR.out q r (by omega) (by omega)
       have hsI:(enc xi).length = k:=RR.out.hk _
       have hsJ:(enc xj).length = k:=RR.out.hk _
       rw [hxi] at li
       rw [hxj] at lj
       rw [hxi,hxj] at SW
       clear hxi hxj hs0k SK
       obtain ⟨cI,hcI⟩:∃ c,c = enc xi:=⟨_,rfl⟩
       obtain ⟨cJ,hcJ⟩:∃ c,c = enc xj:=⟨_,rfl⟩
       rw [← hcI] at li hsI
       rw [← hcJ] at s1 lj hsJ
       rw [← hcI,← hcJ] at s2 SW
       clear hcI hcJ
       go_wp2_with fail
       go_big_region_o
       all_goals go_wp2
       go_roundg (i - (q + 1 + 1))
       case measure=>omega
       case rel =>
        refine ⟨q + 1,swp dk q r,by first | go_num | (congr 1; omega),by omega,by omega,by omega,SW,(show RotOf _ _ _ _ _ from ?_)⟩
        rw [← HRQ.out]
        exact rot_up HR2.out haq (by rw [HD.out]; omega)

      ·have hltz:¬ (q:Int) < (i:Int) - 1:=by omega
       obtain ⟨hp,hr⟩:=one_left (ltOf cf) tg hO.out (a:=a) (b:=b) (i:=i) (d:=d) (d1:=dk) (by omega) hjb (by rw [HD.out]; exact hb) (by rw [← H1.out]; exact HR.out) (by rw [← H1.out]; exact HT.out) (by rw [← H1.out]; exact LO.out) HI.out (by rw [show i = q + 1 by omega]; exact HR2.out)
       go_wp2_with fail
       (try simp only [Exit.inBlock,Exit.then]); refine bodyPost_ret (results_none rfl _ _ _) rfl ?_
       exact ⟨rfl,dk,SK.out,hp,hr⟩

  ·skip
   have n1:¬ ((m:Int) - (a:Int) = 1):=by omega
   have nb1:((m:Int) - (a:Int) == 1) = false:=by rw [beq_eq_false_iff_ne]; exact n1
   have H1:Hid (m ≠ a + 1):=h1
   have hma:a + 1 < m:=by omega
   clear h1
   by_cases h2:b = m + 1
   ·have w2:IntKind.i64.wrap ((b:Int) - (m:Int)) = 1:=by rw [IntKind.wrap_i64]; omega
    have H2:Hid (b = m + 1):=h2
    have hmb2:m < b:=by omega
    clear h2 IH
    go_wp2_with fail
    go_loopg [14,15] (m - a) (fun g1 vi vj wr=>∃ i j:Nat,vi = .int .i64 i ∧ vj = .int .i64 j ∧ a ≤ i ∧ i ≤ j ∧ j ≤ m ∧ j - i ≤ g1 ∧ Hid (SWK enc k w0 blk off d wr) ∧ Hid (∀ h,a ≤ h → h < i → ltOf cf d[m]! d[h]! = false) ∧ Hid (∀ h,j ≤ h → h < m → ltOf cf d[m]! d[h]! = true))
    case atStart=>exact ⟨a,m,rfl,rfl,Nat.le_refl _,by omega,Nat.le_refl _,Nat.le_refl _,SS,fun h h1 h2=>absurd h1 (by omega),fun h h1 h2=>absurd h1 (by omega)⟩
    case round =>
     clear w2 n1 nb1
     obtain ⟨i,j,rfl,rfl,hai,hij,hjm,hg1,SK,LO,HI⟩:=hrel
     by_cases hlt:i < j
     ·have hltz:(i:Int) < (j:Int):=by omega
      obtain ⟨q,hq⟩:∃ q,(i + j) / 2 = q:=⟨_,rfl⟩
      have hmid:((i:Int) + (j:Int)) / 2 = (q:Int):=by omega
      have hqi:i ≤ q:=by omega
      have hqj:q < j:=by omega
      have hs0k:d.size = d0.size:=by rw [HD.out,HD0.out]
      have hdd:=HD.out
      clear hq
      obtain ⟨xx,hxx⟩:∃ x,d[m]! = x:=⟨_,rfl⟩
      obtain ⟨yy,hyy⟩:∃ x,d[q]! = x:=⟨_,rfl⟩
      have bx:(m:Int) < (sz:Int):=by omega
      have px:(0:Int) ≤ (m:Int):=by omega
      have ex:(m:Int).toNat = m:=by omega
      have bY:(q:Int) < (sz:Int):=by omega
      have py:(0:Int) ≤ (q:Int):=by omega
      have ey:(q:Int).toNat = q:=by omega
      have lx:=SK.out.ld RR.out hs0k P m (by omega)
      have ly:=SK.out.ld RR.out hs0k P q (by omega)
      have hcc:=SK.out.cmp HC.out hs0k xx yy
      rw [hxx] at lx
      rw [hyy] at ly
      have HXY:Hid (d[m]! = xx ∧ d[q]! = yy):=⟨hxx,hyy⟩
      clear hxx hyy
      by_cases hlv:cf xx yy < 0
      ·have LV:Hid (ltOf cf d[m]! d[q]! = true):=by show _ = _; rw [HXY.out.1,HXY.out.2]; exact decide_eq_true hlv
       have hdv:decide (cf xx yy < 0) = true:=decide_eq_true hlv
       clear HXY
       go_wp2_with fail
       go_quiet_grown (first | (go_at_fn g; refine Calls.grown_of (hcc _ _)))
       have SV:Hid (SWK enc k w0 blk off d (grow (wr.drewN nq) osq)):=SK.out.grown nq osq
       clear lx ly hcc SK bx px ex bY py ey
       generalize grow (wr.drewN nq) osq = wv at SV ⊢
       clear nq osq
       go_wp2_with fail
       go_roundg (q - i)
       case measure=>omega
       case rel =>
        refine ⟨i,q,rfl,rfl,hai,hqi,by omega,Nat.le_refl _,SV,LO,(fun h h1 h2=>?_:∀ h,q ≤ h → h < m → ltOf cf d[m]! d[h]! = true)⟩
        by_cases e:h = q
        ·subst e; exact LV.out
        ·exact lt_high (ltOf cf) tg hO.out (HL.out q h (by omega) (by omega) (by omega)) LV.out

      ·have LV:Hid (ltOf cf d[m]! d[q]! = false):=by show _ = _; rw [HXY.out.1,HXY.out.2]; exact decide_eq_false hlv
       have hdv:decide (cf xx yy < 0) = false:=decide_eq_false hlv
       clear HXY
       go_wp2_with fail
       go_quiet_grown (first | (go_at_fn g; refine Calls.grown_of (hcc _ _)))
       have SV:Hid (SWK enc k w0 blk off d (grow (wr.drewN nq) osq)):=SK.out.grown nq osq
       clear lx ly hcc SK bx px ex bY py ey
       generalize grow (wr.drewN nq) osq = wv at SV ⊢
       clear nq osq
       go_wp2_with fail
       go_roundg (j - (q + 1))
       case measure=>omega
       case rel =>
        refine ⟨q + 1,j,by go_num,rfl,by omega,by omega,hjm,Nat.le_refl _,SV,(fun h h1 h2=>?_:∀ h,a ≤ h → h < q + 1 → ltOf cf d[m]! d[h]! = false),HI⟩
        by_cases e:h = q
        ·subst e; exact LV.out
        ·exact nlt_low (ltOf cf) tg hO.out (HL.out h q h1 (by omega) (by omega)) LV.out

     ·obtain rfl:i = j:=by omega
      have hltz:¬ (i:Int) < (i:Int):=by omega
      clear hlt hij
      go_wp2_with fail
      go_loopg [17] (m - i) (fun g2 vk wr=>∃ (r:Nat) (dk:Array α),vk = .int .i64 r ∧ i ≤ r ∧ r ≤ m ∧ r ≤ i + g2 ∧ Hid (SWK enc k w0 blk off dk wr) ∧ Hid (RotOf r m (m + 1) d dk))
      case atStart=>exact ⟨m,d,rfl,hjm,Nat.le_refl _,by omega,SK,rot_none _ _ _ _ (Or.inl rfl) ⟨by omega,by omega⟩⟩
      case round =>
       clear SK
       obtain ⟨r,dk,rfl,hir,hrm,hg2,SK,HR2⟩:=hrel
       by_cases hlt:i < r
       ·have hltz:(i:Int) < (r:Int):=by omega
        have hsk:dk.size = sz:=by rw [HR2.out.1]; exact HD.out
        have hs0k:dk.size = d0.size:=by rw [hsk,HD0.out]
        obtain ⟨q,hr⟩:∃ q,r = q + 1:=⟨r - 1,by omega⟩
        have wr1:IntKind.i64.wrap ((r:Int) - 1) = (q:Int):=by rw [IntKind.wrap_i64]; omega
        have wr2:(r:Int) - 1 = (q:Int):=by omega
        have HRQ:Hid (r = q + 1):=hr
        have hrs:r < sz:=by omega
        have hqs:q < sz:=by omega
        have hqr:q < r:=by omega
        have hiq:i ≤ q:=by omega
        clear hr
        obtain ⟨xi,hxi⟩:∃ x,dk[r]! = x:=⟨_,rfl⟩
        obtain ⟨xj,hxj⟩:∃ x,dk[q]! = x:=⟨_,rfl⟩
        have bx:(r:Int) < (sz:Int):=by omega
        have px:(0:Int) ≤ (r:Int):=by omega
        have ex:(r:Int).toNat = r:=by omega
        have bY:(q:Int) < (sz:Int):=by omega
        have py:(0:Int) ≤ (q:Int):=by omega
        have ey:(q:Int).toNat = q:=by omega
        have li:=SK.out.ld1 RR.out hs0k P r (by omega)
        have lj:=SK.out.ld1 RR.out hs0k P q (by omega)
        have s1:=SK.out.st1 RR.out hs0k P r (by omega) xj
        have s2:=SK.out.st2 RR.out hs0k P r q (by omega) (by omega) xj xi
        have SW:Hid _:=SK.out.swapped RR.out r q (by omega) (by omega)
        have hsI:(enc xi).length = k:=RR.out.hk _
        have hsJ:(enc xj).length = k:=RR.out.hk _
        rw [hxi] at li
        rw [hxj] at lj
        rw [hxi,hxj] at SW
        clear hxi hxj hs0k SK
        obtain ⟨cI,hcI⟩:∃ c,c = enc xi:=⟨_,rfl⟩
        obtain ⟨cJ,hcJ⟩:∃ c,c = enc xj:=⟨_,rfl⟩
        rw [← hcI] at li hsI
        rw [← hcJ] at s1 lj hsJ
        rw [← hcI,← hcJ] at s2 SW
        clear hcI hcJ
        go_wp2_with fail
        go_big_region_o
        all_goals go_wp2
        go_roundg (q - i)
        case measure=>omega
        case rel =>
         refine ⟨q,swp dk r q,by first | rfl | go_num | (congr 1; omega),hiq,by omega,by omega,SW,(show RotOf _ _ _ _ _ from ?_)⟩
         have h:=HR2.out
         rw [HRQ.out] at h ⊢
         exact rot_down h (by omega) (by rw [HD.out]; omega)

       ·obtain rfl:i = r:=by omega
        have hltz:¬ (i:Int) < (i:Int):=by omega
        have hltg:¬ (i:Int) > (i:Int):=by omega
        have hT2:Tags tg a m (m + 1) d:=by rw [← H2.out]; exact HT.out
        obtain ⟨hp,hr⟩:=one_right (ltOf cf) tg hO.out (a:=a) (m:=m) (i:=i) (d:=d) (d1:=dk) hai hjm (by rw [HD.out]; omega) HL.out hT2 LO.out HI.out HR2.out
        rw [← H2.out] at hp hr
        have HF:Hid (PermIn a b d dk ∧ Rise (ltOf cf) tg a b dk):=⟨hp,hr⟩
        clear hp hr hT2
        go_wp2_with fail
        (try simp only [Exit.inBlock,Exit.then]); refine bodyPost_ret (results_none rfl _ _ _) rfl ?_
        exact ⟨rfl,dk,SK.out,HF.out.1,HF.out.2⟩
   ·skip
    have n2:¬ ((b:Int) - (m:Int) = 1):=by omega
    have nb2:((b:Int) - (m:Int) == 1) = false:=by rw [beq_eq_false_iff_ne]; exact n2
    have hmb2:m + 1 < b:=by omega
    clear h2
    obtain ⟨md,hmd⟩:∃ q,(a + b) / 2 = q:=⟨_,rfl⟩
    have hmid:((a:Int) + (b:Int)) / 2 = (md:Int):=by omega
    have ha1:a < md:=by omega
    have ha2:md < b:=by omega
    have HMD:Hid (md = (a + b) / 2):=hmd.symm
    obtain ⟨nn,hnn⟩:∃ q,md + m = q:=⟨_,rfl⟩
    have wn:IntKind.i64.wrap ((md:Int) + (m:Int)) = (nn:Int):=by rw [IntKind.wrap_i64]; omega
    have HNN:Hid (nn = md + m):=hnn.symm
    have hn1:md ≤ nn:=by omega
    have hn2:m ≤ nn:=by omega
    have hn3:(nn:Int) = (md:Int) + (m:Int):=by omega
    have HN3:Hid _:=hn3
    have hn4:nn < 9223372036854775807:=by omega
    clear hmd hnn hn3
    go_upto_if 140 with fail
    go_cut [20,21] from 25 (fun v1 v2 wc=>∃ s0 r0:Nat,v1 = .int .i64 s0 ∧ v2 = .int .i64 r0 ∧ Hid ((md < m ∧ s0 = md + m - b ∧ r0 = md) ∨ (m ≤ md ∧ s0 = a ∧ r0 = m)) ∧ Hid (SWK enc k w0 blk off d wc))
    case first =>
     by_cases c0:md < m
     ·have cz:(m:Int) > (md:Int):=by omega
      have cz':(md:Int) < (m:Int):=by omega
      have ws:IntKind.i64.wrap ((nn:Int) - (b:Int)) = ((nn - b:Nat):Int):=by have:=HMD.out; have:=HNN.out; rw [IntKind.wrap_i64]; omega
      go_wp2_with fail
      go_meet
      case rel=>exact ⟨nn - b,md,rfl,rfl,Or.inl ⟨c0,by rw [HNN.out],rfl⟩,SS⟩
     ·have cz:¬ (m:Int) > (md:Int):=by omega
      have cz':¬ (md:Int) < (m:Int):=by omega
      go_wp2_with fail
      go_meet
      case rel=>exact ⟨a,m,rfl,rfl,Or.inr ⟨by omega,rfl,rfl⟩,SS⟩
    case rest =>
     clear n1 n2 nb1 nb2 hmid wn
     obtain ⟨s0,r0,rfl,rfl,H0,SW0⟩:=hcut
     have hr0:r0 ≤ md:=by have:=H0.out; omega
     have hrm:r0 ≤ m:=by have:=H0.out; omega
     have hs0a:a ≤ s0:=by have:=H0.out; have:=HMD.out; omega
     have hsr0:s0 ≤ r0:=by have:=H0.out; have:=HMD.out; omega
     have hsb:nn ≤ b + s0:=by have:=H0.out; have:=HMD.out; have:=HNN.out; omega
     have hpm:m + r0 ≤ nn:=by have:=HNN.out; omega
     have wp:IntKind.i64.wrap ((nn:Int) - 1) = (nn:Int) - 1:=by rw [IntKind.wrap_i64]; omega
     go_wp2_with fail
     go_loopg [20,21] (r0 - s0) (fun g1 vi vj wr=>∃ s r:Nat,vi = .int .i64 s ∧ vj = .int .i64 r ∧ s0 ≤ s ∧ s ≤ r ∧ r ≤ r0 ∧ r - s ≤ g1 ∧ Hid (SWK enc k w0 blk off d wr) ∧ Hid (s0 < s → ltOf cf d[md + m - 1 - (s - 1)]! d[s - 1]! = false) ∧ Hid (r < r0 → ltOf cf d[md + m - 1 - r]! d[r]! = true))
     case atStart=>exact ⟨s0,r0,rfl,rfl,Nat.le_refl _,hsr0,Nat.le_refl _,Nat.le_refl _,SW0,fun h=>absurd h (by omega),fun h=>absurd h (by omega)⟩
     case round =>
      clear wp SW0
      obtain ⟨s,r,rfl,rfl,hs0s,hsr,hrr0,hg1,SK,LO,HI⟩:=hrel
      by_cases hlt:s < r
      ·have hltz:(s:Int) < (r:Int):=by omega
       obtain ⟨q,hq⟩:∃ q,(s + r) / 2 = q:=⟨_,rfl⟩
       have hmid:((s:Int) + (r:Int)) / 2 = (q:Int):=by omega
       have hqi:s ≤ q:=by omega
       have hqj:q < r:=by omega
       have hs0k:d.size = d0.size:=by rw [HD.out,HD0.out]
       have hdd:=HD.out
       clear hq
       obtain ⟨e,he⟩:∃ e,nn - 1 - q = e:=⟨_,rfl⟩
       have we:IntKind.i64.wrap ((nn:Int) - 1 - (q:Int)) = (e:Int):=by rw [IntKind.wrap_i64]; omega
       have HE:Hid (md + m - 1 - q = e):=by show _ = _; rw [← HNN.out]; exact he
       have hes:e < sz:=by omega
       clear he
       obtain ⟨xx,hxx⟩:∃ x,d[e]! = x:=⟨_,rfl⟩
       obtain ⟨yy,hyy⟩:∃ x,d[q]! = x:=⟨_,rfl⟩
       have bx:(e:Int) < (sz:Int):=by omega
       have px:(0:Int) ≤ (e:Int):=by omega
       have ex:(e:Int).toNat = e:=by omega
       have bY:(q:Int) < (sz:Int):=by omega
       have py:(0:Int) ≤ (q:Int):=by omega
       have ey:(q:Int).toNat = q:=by omega
       have lx:=SK.out.ld RR.out hs0k P e (by omega)
       have ly:=SK.out.ld RR.out hs0k P q (by omega)
       have hcc:=SK.out.cmp HC.out hs0k xx yy
       rw [hxx] at lx
       rw [hyy] at ly
       have HXY:Hid (d[e]! = xx ∧ d[q]! = yy):=⟨hxx,hyy⟩
       clear hxx hyy
       by_cases hlv:cf xx yy < 0
       ·have LV:Hid (ltOf cf d[e]! d[q]! = true):=by show _ = _; rw [HXY.out.1,HXY.out.2]; exact decide_eq_true hlv
        have hdv:decide (cf xx yy < 0) = true:=decide_eq_true hlv
        clear HXY
        go_wp2_with fail
        go_quiet_grown (first | (go_at_fn g; refine Calls.grown_of (hcc _ _)))
        have SV:Hid (SWK enc k w0 blk off d (grow (wr.drewN nq) osq)):=SK.out.grown nq osq
        clear lx ly hcc SK bx px ex bY py ey
        generalize grow (wr.drewN nq) osq = wv at SV ⊢
        clear nq osq
        go_wp2_with fail
        go_roundg (q - s)
        case measure=>omega
        case rel =>
         exact ⟨s,q,rfl,rfl,hs0s,hqi,by omega,Nat.le_refl _,SV,LO,(fun h=>by rw [HE.out]; exact LV.out:q < r0 → ltOf cf d[md + m - 1 - q]! d[q]! = true)⟩

       ·have LV:Hid (ltOf cf d[e]! d[q]! = false):=by show _ = _; rw [HXY.out.1,HXY.out.2]; exact decide_eq_false hlv
        have hdv:decide (cf xx yy < 0) = false:=decide_eq_false hlv
        clear HXY
        go_wp2_with fail
        go_quiet_grown (first | (go_at_fn g; refine Calls.grown_of (hcc _ _)))
        have SV:Hid (SWK enc k w0 blk off d (grow (wr.drewN nq) osq)):=SK.out.grown nq osq
        clear lx ly hcc SK bx px ex bY py ey
        generalize grow (wr.drewN nq) osq = wv at SV ⊢
        clear nq osq
        go_wp2_with fail
        go_roundg (r - (q + 1))
        case measure=>omega
        case rel =>
         exact ⟨q + 1,r,by go_num,rfl,by omega,by omega,hrr0,Nat.le_refl _,SV,(fun h=>by rw [show q + 1 - 1 = q by omega,HE.out]; exact LV.out:s0 < q + 1 → ltOf cf d[md + m - 1 - (q + 1 - 1)]! d[q + 1 - 1]! = false),HI⟩

      ·obtain rfl:s = r:=by omega
       have hltz:¬ (s:Int) < (s:Int):=by omega
       clear hlt hsr
       obtain ⟨e,he⟩:∃ e,nn - s = e:=⟨_,rfl⟩
       have we:IntKind.i64.wrap ((nn:Int) - (s:Int)) = (e:Int):=by rw [IntKind.wrap_i64]; omega
       have we2:(nn:Int) - (s:Int) = (e:Int):=by omega
       have HE:Hid (md + m - s = e):=by show _ = _; rw [← HNN.out]; exact he
       have hcut:=cut_mid (ltOf cf) tg hO.out (a:=a) (m:=m) (b:=b) (mid:=md) (s:=s) (s0:=s0) (r0:=r0) (d:=d) (by omega) (by omega) HMD.out HL.out HR.out HT.out H0.out hs0s hrr0 LO.out HI.out
       rw [HE.out] at hcut
       have has:=hcut.as
       have hsm:=hcut.sm
       have hme:=hcut.me
       have heb:=hcut.eb
       have hmde:s + (e - m) = md:=by have:=HE.out; omega
       have hmde2:md ≤ e:=by have:=HE.out; omega
       have hsmd:s ≤ md:=by omega
       have CUT:Hid (Cut (ltOf cf) tg a s m e b d ∧ s + (e - m) = md):=⟨hcut,hmde⟩
       clear hcut hmde he HI LO
       by_cases c1:s < m ∧ m < e
       ·have cx1:(s:Int) < (m:Int):=by omega
        have cx2:(m:Int) < (e:Int):=by omega
        obtain ⟨g1,g2⟩:=c1
        have hc1:=rotate_any QQ.out enc (.func (.func g) #[] cb) blk off cap s m e sz d0 d w0 wr RR.out HD0.out HD.out SK.out g1 g2 (by omega) hsz
        go_upto_region 41 with (go_at_fn 109; refine hc1.mono ?_; rintro e w1 ⟨rfl,d1,hw1,hd1⟩)
        have HW1:Hid (SWK enc k w0 blk off d1 w1):=hw1
        have ROT:Hid (RotOf s m e d d1):=hd1
        have HD1:Hid (d1.size = sz):=by show _ = _; rw [hd1.1]; exact HD.out
        have PARTS:Hid _:=sym_parts (ltOf cf) tg HL.out HR.out HT.out CUT.out.1 CUT.out.2 hd1
        clear hw1 hd1 hc1
        by_cases c2:a < s ∧ s < md
        ·have cy1:(a:Int) < (s:Int):=by omega
         have cy2:(s:Int) < (md:Int):=by omega
         obtain ⟨g1,g2⟩:=c2
         have hc2:=IH.out a s md d1 _ (by omega) HD1.out HW1.out g1 g2 (by omega) PARTS.out.1 PARTS.out.2.1 PARTS.out.2.2.1
         go_upto_region 43 with (go_at_fn 75; refine hc2.mono ?_; rintro e w2 ⟨rfl,d2,hw2,hp2,hr2⟩)
         have HW2:Hid (SWK enc k w0 blk off d2 w2):=hw2
         have HP2:Hid (PermIn a md d1 d2):=hp2
         have HR22:Hid (Rise (ltOf cf) tg a md d2):=hr2
         clear hw2 hp2 hr2 hc2
         by_cases c3:md < e ∧ e < b
         ·have cz1:(md:Int) < (e:Int):=by omega
          have cz2:(e:Int) < (b:Int):=by omega
          obtain ⟨g1,g2⟩:=c3
          have hc3:=IH.out md e b d2 _ (by omega) (by rw [(HP2.out).1]; exact HD1.out) HW2.out g1 g2 hb (rise_perm (ltOf cf) tg PARTS.out.2.2.2.1 fun i h1 h2=>(HP2.out).2.1 i (by omega)) (rise_perm (ltOf cf) tg PARTS.out.2.2.2.2.1 fun i h1 h2=>(HP2.out).2.1 i (by omega)) (tags_perm tg PARTS.out.2.2.2.2.2 fun i h1 h2=>(HP2.out).2.1 i (by omega))
          go_wp2_with (go_at_fn 75; refine hc3.mono ?_; rintro e w3 ⟨rfl,d3,hw3,hp3,hr3⟩)
          have HF:Hid (PermIn a b d d3 ∧ Rise (ltOf cf) tg a b d3):=sym_done (ltOf cf) tg (d2:=d2) (by rw [HD.out]; exact hb) HL.out HR.out CUT.out.1 CUT.out.2 ROT.out HP2.out HR22.out hp3 hr3
          go_wp2_with fail
          go_end0
          exact ⟨rfl,_,hw3,HF.out.1,HF.out.2⟩

         ·have HRR:Hid (Rise (ltOf cf) tg md b d2):=by
           rcases (by omega:e = md ∨ e = b) with h | h
           ·have:=rise_perm (ltOf cf) tg PARTS.out.2.2.2.2.1 fun i h1 h2=>(HP2.out).2.1 i (by omega)
            rwa [h] at this
           ·have:=rise_perm (ltOf cf) tg PARTS.out.2.2.2.1 fun i h1 h2=>(HP2.out).2.1 i (by omega)
            rwa [h] at this
          have HF:Hid (PermIn a b d d2 ∧ Rise (ltOf cf) tg a b d2):=sym_done (ltOf cf) tg (d2:=d2) (by rw [HD.out]; exact hb) HL.out HR.out CUT.out.1 CUT.out.2 ROT.out HP2.out HR22.out (permIn_refl _ _ _) HRR.out
          by_cases cx:md < e
          ·have cz1:(md:Int) < (e:Int):=by omega
           have cz2:¬ (e:Int) < (b:Int):=by omega
           clear c3
           go_wp2_with fail
           go_end0
           exact ⟨rfl,_,HW2.out,HF.out.1,HF.out.2⟩
          ·have cz1:¬ (md:Int) < (e:Int):=by omega
           clear c3
           go_wp2_with fail
           go_end0
           exact ⟨rfl,_,HW2.out,HF.out.1,HF.out.2⟩

        ·have HR22:Hid (Rise (ltOf cf) tg a md d1):=by
          rcases (by omega:s = a ∨ s = md) with h | h
          ·have:=PARTS.out.2.1
           rwa [h] at this
          ·have:=PARTS.out.1
           rwa [h] at this
         by_cases cx:a < s
         ·have cy1:(a:Int) < (s:Int):=by omega
          have cy2:¬ (s:Int) < (md:Int):=by omega
          clear c2
          go_upto_region 43 with fail
          by_cases c3:md < e ∧ e < b
          ·have cz1:(md:Int) < (e:Int):=by omega
           have cz2:(e:Int) < (b:Int):=by omega
           obtain ⟨g1,g2⟩:=c3
           have hc3:=IH.out md e b d1 _ (by omega) (by rw [((permIn_refl d1 a md)).1]; exact HD1.out) HW1.out g1 g2 hb (rise_perm (ltOf cf) tg PARTS.out.2.2.2.1 fun i h1 h2=>((permIn_refl d1 a md)).2.1 i (by omega)) (rise_perm (ltOf cf) tg PARTS.out.2.2.2.2.1 fun i h1 h2=>((permIn_refl d1 a md)).2.1 i (by omega)) (tags_perm tg PARTS.out.2.2.2.2.2 fun i h1 h2=>((permIn_refl d1 a md)).2.1 i (by omega))
           go_wp2_with (go_at_fn 75; refine hc3.mono ?_; rintro e w3 ⟨rfl,d3,hw3,hp3,hr3⟩)
           have HF:Hid (PermIn a b d d3 ∧ Rise (ltOf cf) tg a b d3):=sym_done (ltOf cf) tg (d2:=d1) (by rw [HD.out]; exact hb) HL.out HR.out CUT.out.1 CUT.out.2 ROT.out (permIn_refl d1 a md) HR22.out hp3 hr3
           go_wp2_with fail
           go_end0
           exact ⟨rfl,_,hw3,HF.out.1,HF.out.2⟩

          ·have HRR:Hid (Rise (ltOf cf) tg md b d1):=by
            rcases (by omega:e = md ∨ e = b) with h | h
            ·have:=rise_perm (ltOf cf) tg PARTS.out.2.2.2.2.1 fun i h1 h2=>((permIn_refl d1 a md)).2.1 i (by omega)
             rwa [h] at this
            ·have:=rise_perm (ltOf cf) tg PARTS.out.2.2.2.1 fun i h1 h2=>((permIn_refl d1 a md)).2.1 i (by omega)
             rwa [h] at this
           have HF:Hid (PermIn a b d d1 ∧ Rise (ltOf cf) tg a b d1):=sym_done (ltOf cf) tg (d2:=d1) (by rw [HD.out]; exact hb) HL.out HR.out CUT.out.1 CUT.out.2 ROT.out (permIn_refl d1 a md) HR22.out (permIn_refl _ _ _) HRR.out
           by_cases cx:md < e
           ·have cz1:(md:Int) < (e:Int):=by omega
            have cz2:¬ (e:Int) < (b:Int):=by omega
            clear c3
            go_wp2_with fail
            go_end0
            exact ⟨rfl,_,HW1.out,HF.out.1,HF.out.2⟩
           ·have cz1:¬ (md:Int) < (e:Int):=by omega
            clear c3
            go_wp2_with fail
            go_end0
            exact ⟨rfl,_,HW1.out,HF.out.1,HF.out.2⟩

         ·have cy1:¬ (a:Int) < (s:Int):=by omega
          clear c2
          go_upto_region 43 with fail
          by_cases c3:md < e ∧ e < b
          ·have cz1:(md:Int) < (e:Int):=by omega
           have cz2:(e:Int) < (b:Int):=by omega
           obtain ⟨g1,g2⟩:=c3
           have hc3:=IH.out md e b d1 _ (by omega) (by rw [((permIn_refl d1 a md)).1]; exact HD1.out) HW1.out g1 g2 hb (rise_perm (ltOf cf) tg PARTS.out.2.2.2.1 fun i h1 h2=>((permIn_refl d1 a md)).2.1 i (by omega)) (rise_perm (ltOf cf) tg PARTS.out.2.2.2.2.1 fun i h1 h2=>((permIn_refl d1 a md)).2.1 i (by omega)) (tags_perm tg PARTS.out.2.2.2.2.2 fun i h1 h2=>((permIn_refl d1 a md)).2.1 i (by omega))
           go_wp2_with (go_at_fn 75; refine hc3.mono ?_; rintro e w3 ⟨rfl,d3,hw3,hp3,hr3⟩)
           have HF:Hid (PermIn a b d d3 ∧ Rise (ltOf cf) tg a b d3):=sym_done (ltOf cf) tg (d2:=d1) (by rw [HD.out]; exact hb) HL.out HR.out CUT.out.1 CUT.out.2 ROT.out (permIn_refl d1 a md) HR22.out hp3 hr3
           go_wp2_with fail
           go_end0
           exact ⟨rfl,_,hw3,HF.out.1,HF.out.2⟩

          ·have HRR:Hid (Rise (ltOf cf) tg md b d1):=by
            rcases (by omega:e = md ∨ e = b) with h | h
            ·have:=rise_perm (ltOf cf) tg PARTS.out.2.2.2.2.1 fun i h1 h2=>((permIn_refl d1 a md)).2.1 i (by omega)
             rwa [h] at this
            ·have:=rise_perm (ltOf cf) tg PARTS.out.2.2.2.1 fun i h1 h2=>((permIn_refl d1 a md)).2.1 i (by omega)
             rwa [h] at this
           have HF:Hid (PermIn a b d d1 ∧ Rise (ltOf cf) tg a b d1):=sym_done (ltOf cf) tg (d2:=d1) (by rw [HD.out]; exact hb) HL.out HR.out CUT.out.1 CUT.out.2 ROT.out (permIn_refl d1 a md) HR22.out (permIn_refl _ _ _) HRR.out
           by_cases cx:md < e
           ·have cz1:(md:Int) < (e:Int):=by omega
            have cz2:¬ (e:Int) < (b:Int):=by omega
            clear c3
            go_wp2_with fail
            go_end0
            exact ⟨rfl,_,HW1.out,HF.out.1,HF.out.2⟩
           ·have cz1:¬ (md:Int) < (e:Int):=by omega
            clear c3
            go_wp2_with fail
            go_end0
            exact ⟨rfl,_,HW1.out,HF.out.1,HF.out.2⟩

       ·obtain ⟨d1,hd1⟩:∃ d1,d1 = d:=⟨_,rfl⟩
        have ROT:Hid (RotOf s m e d d1):=by rw [hd1]; exact rot_none _ _ _ _ (by omega) ⟨by omega,by omega⟩
        have HW1:Hid (SWK enc k w0 blk off d1 wr):=by rw [hd1]; exact SK
        have HD1:Hid (d1.size = sz):=by rw [hd1]; exact HD
        have PARTS:Hid _:=sym_parts (ltOf cf) tg HL.out HR.out HT.out CUT.out.1 CUT.out.2 ROT.out
        clear hd1 SK
        by_cases cx:s < m
        ·have cx1:(s:Int) < (m:Int):=by omega
         have cx2:¬ (m:Int) < (e:Int):=by omega
         clear c1
         go_upto_region 41 with fail
         by_cases c2:a < s ∧ s < md
         ·have cy1:(a:Int) < (s:Int):=by omega
          have cy2:(s:Int) < (md:Int):=by omega
          obtain ⟨g1,g2⟩:=c2
          have hc2:=IH.out a s md d1 _ (by omega) HD1.out HW1.out g1 g2 (by omega) PARTS.out.1 PARTS.out.2.1 PARTS.out.2.2.1
          go_upto_region 43 with (go_at_fn 75; refine hc2.mono ?_; rintro e w2 ⟨rfl,d2,hw2,hp2,hr2⟩)
          have HW2:Hid (SWK enc k w0 blk off d2 w2):=hw2
          have HP2:Hid (PermIn a md d1 d2):=hp2
          have HR22:Hid (Rise (ltOf cf) tg a md d2):=hr2
          clear hw2 hp2 hr2 hc2
          by_cases c3:md < e ∧ e < b
          ·have cz1:(md:Int) < (e:Int):=by omega
           have cz2:(e:Int) < (b:Int):=by omega
           obtain ⟨g1,g2⟩:=c3
           have hc3:=IH.out md e b d2 _ (by omega) (by rw [(HP2.out).1]; exact HD1.out) HW2.out g1 g2 hb (rise_perm (ltOf cf) tg PARTS.out.2.2.2.1 fun i h1 h2=>(HP2.out).2.1 i (by omega)) (rise_perm (ltOf cf) tg PARTS.out.2.2.2.2.1 fun i h1 h2=>(HP2.out).2.1 i (by omega)) (tags_perm tg PARTS.out.2.2.2.2.2 fun i h1 h2=>(HP2.out).2.1 i (by omega))
           go_wp2_with (go_at_fn 75; refine hc3.mono ?_; rintro e w3 ⟨rfl,d3,hw3,hp3,hr3⟩)
           have HF:Hid (PermIn a b d d3 ∧ Rise (ltOf cf) tg a b d3):=sym_done (ltOf cf) tg (d2:=d2) (by rw [HD.out]; exact hb) HL.out HR.out CUT.out.1 CUT.out.2 ROT.out HP2.out HR22.out hp3 hr3
           go_wp2_with fail
           go_end0
           exact ⟨rfl,_,hw3,HF.out.1,HF.out.2⟩

          ·have HRR:Hid (Rise (ltOf cf) tg md b d2):=by
            rcases (by omega:e = md ∨ e = b) with h | h
            ·have:=rise_perm (ltOf cf) tg PARTS.out.2.2.2.2.1 fun i h1 h2=>(HP2.out).2.1 i (by omega)
             rwa [h] at this
            ·have:=rise_perm (ltOf cf) tg PARTS.out.2.2.2.1 fun i h1 h2=>(HP2.out).2.1 i (by omega)
             rwa [h] at this
           have HF:Hid (PermIn a b d d2 ∧ Rise (ltOf cf) tg a b d2):=sym_done (ltOf cf) tg (d2:=d2) (by rw [HD.out]; exact hb) HL.out HR.out CUT.out.1 CUT.out.2 ROT.out HP2.out HR22.out (permIn_refl _ _ _) HRR.out
           by_cases cx:md < e
           ·have cz1:(md:Int) < (e:Int):=by omega
            have cz2:¬ (e:Int) < (b:Int):=by omega
            clear c3
            go_wp2_with fail
            go_end0
            exact ⟨rfl,_,HW2.out,HF.out.1,HF.out.2⟩
           ·have cz1:¬ (md:Int) < (e:Int):=by omega
            clear c3
            go_wp2_with fail
            go_end0
            exact ⟨rfl,_,HW2.out,HF.out.1,HF.out.2⟩

         ·have HR22:Hid (Rise (ltOf cf) tg a md d1):=by
           rcases (by omega:s = a ∨ s = md) with h | h
           ·have:=PARTS.out.2.1
            rwa [h] at this
           ·have:=PARTS.out.1
            rwa [h] at this
          by_cases cx:a < s
          ·have cy1:(a:Int) < (s:Int):=by omega
           have cy2:¬ (s:Int) < (md:Int):=by omega
           clear c2
           go_upto_region 43 with fail
           by_cases c3:md < e ∧ e < b
           ·have cz1:(md:Int) < (e:Int):=by omega
            have cz2:(e:Int) < (b:Int):=by omega
            obtain ⟨g1,g2⟩:=c3
            have hc3:=IH.out md e b d1 _ (by omega) (by rw [((permIn_refl d1 a md)).1]; exact HD1.out) HW1.out g1 g2 hb (rise_perm (ltOf cf) tg PARTS.out.2.2.2.1 fun i h1 h2=>((permIn_refl d1 a md)).2.1 i (by omega)) (rise_perm (ltOf cf) tg PARTS.out.2.2.2.2.1 fun i h1 h2=>((permIn_refl d1 a md)).2.1 i (by omega)) (tags_perm tg PARTS.out.2.2.2.2.2 fun i h1 h2=>((permIn_refl d1 a md)).2.1 i (by omega))
            go_wp2_with (go_at_fn 75; refine hc3.mono ?_; rintro e w3 ⟨rfl,d3,hw3,hp3,hr3⟩)
            have HF:Hid (PermIn a b d d3 ∧ Rise (ltOf cf) tg a b d3):=sym_done (ltOf cf) tg (d2:=d1) (by rw [HD.out]; exact hb) HL.out HR.out CUT.out.1 CUT.out.2 ROT.out (permIn_refl d1 a md) HR22.out hp3 hr3
            go_wp2_with fail
            go_end0
            exact ⟨rfl,_,hw3,HF.out.1,HF.out.2⟩

           ·have HRR:Hid (Rise (ltOf cf) tg md b d1):=by
             rcases (by omega:e = md ∨ e = b) with h | h
             ·have:=rise_perm (ltOf cf) tg PARTS.out.2.2.2.2.1 fun i h1 h2=>((permIn_refl d1 a md)).2.1 i (by omega)
              rwa [h] at this
             ·have:=rise_perm (ltOf cf) tg PARTS.out.2.2.2.1 fun i h1 h2=>((permIn_refl d1 a md)).2.1 i (by omega)
              rwa [h] at this
            have HF:Hid (PermIn a b d d1 ∧ Rise (ltOf cf) tg a b d1):=sym_done (ltOf cf) tg (d2:=d1) (by rw [HD.out]; exact hb) HL.out HR.out CUT.out.1 CUT.out.2 ROT.out (permIn_refl d1 a md) HR22.out (permIn_refl _ _ _) HRR.out
            by_cases cx:md < e
            ·have cz1:(md:Int) < (e:Int):=by omega
             have cz2:¬ (e:Int) < (b:Int):=by omega
             clear c3
             go_wp2_with fail
             go_end0
             exact ⟨rfl,_,HW1.out,HF.out.1,HF.out.2⟩
            ·have cz1:¬ (md:Int) < (e:Int):=by omega
             clear c3
             go_wp2_with fail
             go_end0
             exact ⟨rfl,_,HW1.out,HF.out.1,HF.out.2⟩

          ·have cy1:¬ (a:Int) < (s:Int):=by omega
           clear c2
           go_upto_region 43 with fail
           by_cases c3:md < e ∧ e < b
           ·have cz1:(md:Int) < (e:Int):=by omega
            have cz2:(e:Int) < (b:Int):=by omega
            obtain ⟨g1,g2⟩:=c3
            have hc3:=IH.out md e b d1 _ (by omega) (by rw [((permIn_refl d1 a md)).1]; exact HD1.out) HW1.out g1 g2 hb (rise_perm (ltOf cf) tg PARTS.out.2.2.2.1 fun i h1 h2=>((permIn_refl d1 a md)).2.1 i (by omega)) (rise_perm (ltOf cf) tg PARTS.out.2.2.2.2.1 fun i h1 h2=>((permIn_refl d1 a md)).2.1 i (by omega)) (tags_perm tg PARTS.out.2.2.2.2.2 fun i h1 h2=>((permIn_refl d1 a md)).2.1 i (by omega))
            go_wp2_with (go_at_fn 75; refine hc3.mono ?_; rintro e w3 ⟨rfl,d3,hw3,hp3,hr3⟩)
            have HF:Hid (PermIn a b d d3 ∧ Rise (ltOf cf) tg a b d3):=sym_done (ltOf cf) tg (d2:=d1) (by rw [HD.out]; exact hb) HL.out HR.out CUT.out.1 CUT.out.2 ROT.out (permIn_refl d1 a md) HR22.out hp3 hr3
            go_wp2_with fail
            go_end0
            exact ⟨rfl,_,hw3,HF.out.1,HF.out.2⟩

           ·have HRR:Hid (Rise (ltOf cf) tg md b d1):=by
             rcases (by omega:e = md ∨ e = b) with h | h
             ·have:=rise_perm (ltOf cf) tg PARTS.out.2.2.2.2.1 fun i h1 h2=>((permIn_refl d1 a md)).2.1 i (by omega)
              rwa [h] at this
             ·have:=rise_perm (ltOf cf) tg PARTS.out.2.2.2.1 fun i h1 h2=>((permIn_refl d1 a md)).2.1 i (by omega)
              rwa [h] at this
            have HF:Hid (PermIn a b d d1 ∧ Rise (ltOf cf) tg a b d1):=sym_done (ltOf cf) tg (d2:=d1) (by rw [HD.out]; exact hb) HL.out HR.out CUT.out.1 CUT.out.2 ROT.out (permIn_refl d1 a md) HR22.out (permIn_refl _ _ _) HRR.out
            by_cases cx:md < e
            ·have cz1:(md:Int) < (e:Int):=by omega
             have cz2:¬ (e:Int) < (b:Int):=by omega
             clear c3
             go_wp2_with fail
             go_end0
             exact ⟨rfl,_,HW1.out,HF.out.1,HF.out.2⟩
            ·have cz1:¬ (md:Int) < (e:Int):=by omega
             clear c3
             go_wp2_with fail
             go_end0
             exact ⟨rfl,_,HW1.out,HF.out.1,HF.out.2⟩

        ·have cx1:¬ (s:Int) < (m:Int):=by omega
         clear c1
         go_upto_region 41 with fail
         by_cases c2:a < s ∧ s < md
         ·have cy1:(a:Int) < (s:Int):=by omega
          have cy2:(s:Int) < (md:Int):=by omega
          obtain ⟨g1,g2⟩:=c2
          have hc2:=IH.out a s md d1 _ (by omega) HD1.out HW1.out g1 g2 (by omega) PARTS.out.1 PARTS.out.2.1 PARTS.out.2.2.1
          go_upto_region 43 with (go_at_fn 75; refine hc2.mono ?_; rintro e w2 ⟨rfl,d2,hw2,hp2,hr2⟩)
          have HW2:Hid (SWK enc k w0 blk off d2 w2):=hw2
          have HP2:Hid (PermIn a md d1 d2):=hp2
          have HR22:Hid (Rise (ltOf cf) tg a md d2):=hr2
          clear hw2 hp2 hr2 hc2
          by_cases c3:md < e ∧ e < b
          ·have cz1:(md:Int) < (e:Int):=by omega
           have cz2:(e:Int) < (b:Int):=by omega
           obtain ⟨g1,g2⟩:=c3
           have hc3:=IH.out md e b d2 _ (by omega) (by rw [(HP2.out).1]; exact HD1.out) HW2.out g1 g2 hb (rise_perm (ltOf cf) tg PARTS.out.2.2.2.1 fun i h1 h2=>(HP2.out).2.1 i (by omega)) (rise_perm (ltOf cf) tg PARTS.out.2.2.2.2.1 fun i h1 h2=>(HP2.out).2.1 i (by omega)) (tags_perm tg PARTS.out.2.2.2.2.2 fun i h1 h2=>(HP2.out).2.1 i (by omega))
           go_wp2_with (go_at_fn 75; refine hc3.mono ?_; rintro e w3 ⟨rfl,d3,hw3,hp3,hr3⟩)
           have HF:Hid (PermIn a b d d3 ∧ Rise (ltOf cf) tg a b d3):=sym_done (ltOf cf) tg (d2:=d2) (by rw [HD.out]; exact hb) HL.out HR.out CUT.out.1 CUT.out.2 ROT.out HP2.out HR22.out hp3 hr3
           go_wp2_with fail
           go_end0
           exact ⟨rfl,_,hw3,HF.out.1,HF.out.2⟩

          ·have HRR:Hid (Rise (ltOf cf) tg md b d2):=by
            rcases (by omega:e = md ∨ e = b) with h | h
            ·have:=rise_perm (ltOf cf) tg PARTS.out.2.2.2.2.1 fun i h1 h2=>(HP2.out).2.1 i (by omega)
             rwa [h] at this
            ·have:=rise_perm (ltOf cf) tg PARTS.out.2.2.2.1 fun i h1 h2=>(HP2.out).2.1 i (by omega)
             rwa [h] at this
           have HF:Hid (PermIn a b d d2 ∧ Rise (ltOf cf) tg a b d2):=sym_done (ltOf cf) tg (d2:=d2) (by rw [HD.out]; exact hb) HL.out HR.out CUT.out.1 CUT.out.2 ROT.out HP2.out HR22.out (permIn_refl _ _ _) HRR.out
           by_cases cx:md < e
           ·have cz1:(md:Int) < (e:Int):=by omega
            have cz2:¬ (e:Int) < (b:Int):=by omega
            clear c3
            go_wp2_with fail
            go_end0
            exact ⟨rfl,_,HW2.out,HF.out.1,HF.out.2⟩
           ·have cz1:¬ (md:Int) < (e:Int):=by omega
            clear c3
            go_wp2_with fail
            go_end0
            exact ⟨rfl,_,HW2.out,HF.out.1,HF.out.2⟩

         ·have HR22:Hid (Rise (ltOf cf) tg a md d1):=by
           rcases (by omega:s = a ∨ s = md) with h | h
           ·have:=PARTS.out.2.1
            rwa [h] at this
           ·have:=PARTS.out.1
            rwa [h] at this
          by_cases cx:a < s
          ·have cy1:(a:Int) < (s:Int):=by omega
           have cy2:¬ (s:Int) < (md:Int):=by omega
           clear c2
           go_upto_region 43 with fail
           by_cases c3:md < e ∧ e < b
           ·have cz1:(md:Int) < (e:Int):=by omega
            have cz2:(e:Int) < (b:Int):=by omega
            obtain ⟨g1,g2⟩:=c3
            have hc3:=IH.out md e b d1 _ (by omega) (by rw [((permIn_refl d1 a md)).1]; exact HD1.out) HW1.out g1 g2 hb (rise_perm (ltOf cf) tg PARTS.out.2.2.2.1 fun i h1 h2=>((permIn_refl d1 a md)).2.1 i (by omega)) (rise_perm (ltOf cf) tg PARTS.out.2.2.2.2.1 fun i h1 h2=>((permIn_refl d1 a md)).2.1 i (by omega)) (tags_perm tg PARTS.out.2.2.2.2.2 fun i h1 h2=>((permIn_refl d1 a md)).2.1 i (by omega))
            go_wp2_with (go_at_fn 75; refine hc3.mono ?_; rintro e w3 ⟨rfl,d3,hw3,hp3,hr3⟩)
            have HF:Hid (PermIn a b d d3 ∧ Rise (ltOf cf) tg a b d3):=sym_done (ltOf cf) tg (d2:=d1) (by rw [HD.out]; exact hb) HL.out HR.out CUT.out.1 CUT.out.2 ROT.out (permIn_refl d1 a md) HR22.out hp3 hr3
            go_wp2_with fail
            go_end0
            exact ⟨rfl,_,hw3,HF.out.1,HF.out.2⟩

           ·have HRR:Hid (Rise (ltOf cf) tg md b d1):=by
             rcases (by omega:e = md ∨ e = b) with h | h
             ·have:=rise_perm (ltOf cf) tg PARTS.out.2.2.2.2.1 fun i h1 h2=>((permIn_refl d1 a md)).2.1 i (by omega)
              rwa [h] at this
             ·have:=rise_perm (ltOf cf) tg PARTS.out.2.2.2.1 fun i h1 h2=>((permIn_refl d1 a md)).2.1 i (by omega)
              rwa [h] at this
            have HF:Hid (PermIn a b d d1 ∧ Rise (ltOf cf) tg a b d1):=sym_done (ltOf cf) tg (d2:=d1) (by rw [HD.out]; exact hb) HL.out HR.out CUT.out.1 CUT.out.2 ROT.out (permIn_refl d1 a md) HR22.out (permIn_refl _ _ _) HRR.out
            by_cases cx:md < e
            ·have cz1:(md:Int) < (e:Int):=by omega
             have cz2:¬ (e:Int) < (b:Int):=by omega
             clear c3
             go_wp2_with fail
             go_end0
             exact ⟨rfl,_,HW1.out,HF.out.1,HF.out.2⟩
            ·have cz1:¬ (md:Int) < (e:Int):=by omega
             clear c3
             go_wp2_with fail
             go_end0
             exact ⟨rfl,_,HW1.out,HF.out.1,HF.out.2⟩

          ·have cy1:¬ (a:Int) < (s:Int):=by omega
           clear c2
           go_upto_region 43 with fail
           by_cases c3:md < e ∧ e < b
           ·have cz1:(md:Int) < (e:Int):=by omega
            have cz2:(e:Int) < (b:Int):=by omega
            obtain ⟨g1,g2⟩:=c3
            have hc3:=IH.out md e b d1 _ (by omega) (by rw [((permIn_refl d1 a md)).1]; exact HD1.out) HW1.out g1 g2 hb (rise_perm (ltOf cf) tg PARTS.out.2.2.2.1 fun i h1 h2=>((permIn_refl d1 a md)).2.1 i (by omega)) (rise_perm (ltOf cf) tg PARTS.out.2.2.2.2.1 fun i h1 h2=>((permIn_refl d1 a md)).2.1 i (by omega)) (tags_perm tg PARTS.out.2.2.2.2.2 fun i h1 h2=>((permIn_refl d1 a md)).2.1 i (by omega))
            go_wp2_with (go_at_fn 75; refine hc3.mono ?_; rintro e w3 ⟨rfl,d3,hw3,hp3,hr3⟩)
            have HF:Hid (PermIn a b d d3 ∧ Rise (ltOf cf) tg a b d3):=sym_done (ltOf cf) tg (d2:=d1) (by rw [HD.out]; exact hb) HL.out HR.out CUT.out.1 CUT.out.2 ROT.out (permIn_refl d1 a md) HR22.out hp3 hr3
            go_wp2_with fail
            go_end0
            exact ⟨rfl,_,hw3,HF.out.1,HF.out.2⟩

           ·have HRR:Hid (Rise (ltOf cf) tg md b d1):=by
             rcases (by omega:e = md ∨ e = b) with h | h
             ·have:=rise_perm (ltOf cf) tg PARTS.out.2.2.2.2.1 fun i h1 h2=>((permIn_refl d1 a md)).2.1 i (by omega)
              rwa [h] at this
             ·have:=rise_perm (ltOf cf) tg PARTS.out.2.2.2.1 fun i h1 h2=>((permIn_refl d1 a md)).2.1 i (by omega)
              rwa [h] at this
            have HF:Hid (PermIn a b d d1 ∧ Rise (ltOf cf) tg a b d1):=sym_done (ltOf cf) tg (d2:=d1) (by rw [HD.out]; exact hb) HL.out HR.out CUT.out.1 CUT.out.2 ROT.out (permIn_refl d1 a md) HR22.out (permIn_refl _ _ _) HRR.out
            by_cases cx:md < e
            ·have cz1:(md:Int) < (e:Int):=by omega
             have cz2:¬ (e:Int) < (b:Int):=by omega
             clear c3
             go_wp2_with fail
             go_end0
             exact ⟨rfl,_,HW1.out,HF.out.1,HF.out.2⟩
            ·have cz1:¬ (md:Int) < (e:Int):=by omega
             clear c3
             go_wp2_with fail
             go_end0
             exact ⟨rfl,_,HW1.out,HF.out.1,HF.out.2⟩
end Sa
end Go.Proofs.YtgpcilepkmckeaaGreatDoor

/-
The stable sort's swapRange and rotate at entries, at any cells.
-/
import Derived.Test.YtgpcilepkmckeaaGreatDoorProg
import Derived.Test.YtgpcilepkmckeaaGreatDoorEStaStab
import Derived.Shelf.SlSortCmp.KitK
namespace Go.Proofs.YtgpcilepkmckeaaGreatDoor
open Go.RowKit Go.Shelf Go.Lib Go.Sort
set_option linter.unusedSimpArgs false
set_option linter.unusedVariables false
namespace Sa
structure Sb (P:Program) (k:Nat):Prop where
 mixed:P.follows .mixedOrders = true
 t0:P.underlying 0 = some (TypeDesc.tuple #[])
 a0:∀ w,(isAgg 0).run P w = .ok false w
 z0:∀ w,(Go.sizeOf 0).run P w = .ok 1 w
 v0:∀ w,(zeroValue 0).run P w = .ok (Value.tuple #[]) w
 t3:P.underlying 3 = some (TypeDesc.int IntKind.i64)
 a3:∀ w,(isAgg 3).run P w = .ok false w
 z3:∀ w,(Go.sizeOf 3).run P w = .ok 1 w
 v3:∀ w,(zeroValue 3).run P w = .ok (Value.int IntKind.i64 0) w
 t4:P.underlying 4 = some (TypeDesc.bool)
 a4:∀ w,(isAgg 4).run P w = .ok false w
 z4:∀ w,(Go.sizeOf 4).run P w = .ok 1 w
 v4:∀ w,(zeroValue 4).run P w = .ok (Value.bool false) w
 t22:P.underlying 26 = some (TypeDesc.slice 45)
 a22:∀ w,(isAgg 26).run P w = .ok false w
 z22:∀ w,(Go.sizeOf 26).run P w = .ok 1 w
 v22:∀ w,(zeroValue 26).run P w = .ok (Value.slice none 0 0) w
 t25:P.underlying 61 = some (TypeDesc.func #[45,45] #[3] false)
 a25:∀ w,(isAgg 61).run P w = .ok false w
 z25:∀ w,(Go.sizeOf 61).run P w = .ok 1 w
 t95:P.underlying 95 = some (TypeDesc.int IntKind.u64)
 a95:∀ w,(isAgg 95).run P w = .ok false w
 z95:∀ w,(Go.sizeOf 95).run P w = .ok 1 w
 aE:∀ w,(isAgg 45).run P w = .ok true w
 zE:∀ w,(Go.sizeOf 45).run P w = .ok k w
 fSwap:P.funcs[128]? = some Tryz.f128
 fRot:P.funcs[109]? = some Tryz.f109
 fSym:P.funcs[75]? = some Tryz.f75
 fStable:P.funcs[51]? = some Tryz.f51
 fSort:P.funcs[28]? = some Tryz.f28
theorem sb:Sb Tryz.prog 11:={
 mixed:=by kernel_rfl
 t0:=Tryz.underlying0,a0:=Tryz.isAgg0,z0:=Tryz.sizeOf0,v0:=Tryz.zeroValue0
 t3:=Tryz.underlying3,a3:=Tryz.isAgg3,z3:=Tryz.sizeOf3,v3:=Tryz.zeroValue3
 t4:=Tryz.underlying4,a4:=Tryz.isAgg4,z4:=Tryz.sizeOf4,v4:=Tryz.zeroValue4
 t22:=Tryz.underlying26,a22:=Tryz.isAgg26,z22:=Tryz.sizeOf26,v22:=Tryz.zeroValue26
 t25:=Tryz.underlying61,a25:=Tryz.isAgg61,z25:=Tryz.sizeOf61
 t95:=Tryz.underlying95,a95:=Tryz.isAgg95,z95:=Tryz.sizeOf95
 aE:=Tryz.isAgg45,zE:=Tryz.sizeOf45
 fSwap:=Tryz.func128,fRot:=Tryz.func109,fSym:=Tryz.func75,fStable:=Tryz.func51,fSort:=Tryz.func28 }
variable {P:Program} {α:Type} [Inhabited α] {k:Nat}
set_option maxHeartbeats 4000000 in
set_option maxRecDepth 1000000 in
theorem swapRange_any (Q:Sb P k) (enc:α → List Value) (fv:Value) (blk off cap a b n sz:Nat) (d0 d:Array α) (w0 w:World)
  (R:RowK enc k w0 blk off d0) (hs0:d0.size = sz) (hs:d.size = sz) (S:SWK enc k w0 blk off d w) (hab:a + n ≤ b) (hb:b + n ≤ sz) (hsz:sz < 4611686018427387904) :
  Calls P 128 #[.slice (some ⟨blk,off,none⟩) sz cap,.int .i64 a,.int .i64 b,.int .i64 n,fv] w fun e w' =>
   e = .returned (.tuple #[]) ∧ ∃ d',SWK enc k w0 blk off d' w' ∧ SwapOf a b n d d':=by
 have mixed:=Q.mixed; have t0:=Q.t0; have a0:=Q.a0; have z0:=Q.z0; have v0:=Q.v0; have t3:=Q.t3; have a3:=Q.a3; have z3:=Q.z3; have v3:=Q.v3; have t4:=Q.t4; have a4:=Q.a4; have z4:=Q.z4; have v4:=Q.v4; have t22:=Q.t22; have a22:=Q.a22; have z22:=Q.z22; have v22:=Q.v22; have aE:=Q.aE; have zE:=Q.zE
 have FG:=Q.fSwap
 have RR:Hid (RowK enc k w0 blk off d0):=R
 have SS:Hid (SWK enc k w0 blk off d w):=S
 have HD:Hid (d.size = sz):=hs
 have HD0:Hid (d0.size = sz):=hs0
 clear R S hs hs0
 go_enter FG,Tryz.ntmps128
 go_wp2
 go_loopg [10] n (fun g1 vi wr=>∃ (i:Nat) (dk:Array α),vi = .int .i64 i ∧ i ≤ n ∧ n ≤ i + g1 ∧ Hid (SWK enc k w0 blk off dk wr) ∧ Hid (SwapOf a b i d dk))
 case atStart=>exact ⟨0,d,rfl,by omega,by omega,SS,swapOf_nil a b d⟩
 case round =>
  obtain ⟨i,dk,rfl,hin,hg1,SK,HS⟩:=hrel
  by_cases hlt:i < n
  ·have hltz:(i:Int) < (n:Int):=by omega
   have hsk:dk.size = sz:=by rw [HS.out.1]; exact HD.out
   have hs0k:dk.size = d0.size:=by rw [hsk,HD0.out]
   obtain ⟨xi,hxi⟩:∃ x,dk[a + i]! = x:=⟨_,rfl⟩
   obtain ⟨xj,hxj⟩:∃ x,dk[b + i]! = x:=⟨_,rfl⟩
   have wa:IntKind.i64.wrap ((a:Int) + (i:Int)) = ((a + i:Nat):Int):=by rw [IntKind.wrap_i64]; omega
   have wb:IntKind.i64.wrap ((b:Int) + (i:Int)) = ((b + i:Nat):Int):=by rw [IntKind.wrap_i64]; omega
   have ca:((a + i:Nat):Int) < (sz:Int):=by omega
   have cb:((b + i:Nat):Int) < (sz:Int):=by omega
   have pa:(0:Int) ≤ ((a + i:Nat):Int):=by omega
   have pb:(0:Int) ≤ ((b + i:Nat):Int):=by omega
   have ea:((a + i:Nat):Int).toNat = a + i:=by omega
   have eb:((b + i:Nat):Int).toNat = b + i:=by omega
   obtain ⟨ai,hai⟩:∃ x,a + i = x:=⟨_,rfl⟩
   obtain ⟨bi,hbi⟩:∃ x,b + i = x:=⟨_,rfl⟩
   rw [hai] at hxi wa ca pa ea
   rw [hbi] at hxj wb cb pb eb
   have li:=SK.out.ld1 RR.out hs0k P ai (by omega)
   have lj:=SK.out.ld1 RR.out hs0k P bi (by omega)
   have s1:=SK.out.st1 RR.out hs0k P ai (by omega) xj
   have s2:=SK.out.st2 RR.out hs0k P ai bi (by omega) (by omega) xj xi
   have SW:Hid _:=SK.out.swapped RR.out ai bi (by omega) (by omega)
   have hsI:(enc xi).length = k:=RR.out.hk _
   have hsJ:(enc xj).length = k:=RR.out.hk _
   rw [hxi] at li
   rw [hxj] at lj
   rw [hxi,hxj] at SW
   have HX:Hid (dk[ai]! = xi ∧ dk[bi]! = xj ∧ a + i = ai ∧ b + i = bi ∧ dk.size = sz):=⟨hxi,hxj,hai,hbi,hsk⟩
   clear hxi hxj hai hbi hsk hs0k SK
   obtain ⟨cI,hcI⟩:∃ c,c = enc xi:=⟨_,rfl⟩
   obtain ⟨cJ,hcJ⟩:∃ c,c = enc xj:=⟨_,rfl⟩
   rw [← hcI] at li hsI
   rw [← hcJ] at s1 lj hsJ
   rw [← hcI,← hcJ] at s2 SW
   clear hcI hcJ
   go_wp2_with fail
   go_big_region_o
   all_goals go_wp2
   go_roundg (n - (i + 1))
   case measure=>omega
   case rel =>
    obtain ⟨g1,g2,g3,g4,g5⟩:=HX.out
    refine ⟨i + 1,swp dk ai bi,by go_num,by omega,by omega,SW,(show SwapOf _ _ _ _ _ from ?_)⟩
    rw [← g3,← g4]
    exact swapOf_step HS.out (by omega) (by rw [HD.out]; omega)
  ·obtain rfl:i = n:=by omega
   have hltz:¬ (i:Int) < (i:Int):=by omega
   go_wp2
   go_end0
   exact ⟨rfl,dk,SK.out,HS.out⟩
set_option maxHeartbeats 4000000 in
set_option maxRecDepth 1000000 in
theorem rotate_any (Q:Sb P k) (enc:α → List Value) (fv:Value) (blk off cap a m b sz:Nat) (d0 d:Array α) (w0 w:World)
  (R:RowK enc k w0 blk off d0) (hs0:d0.size = sz) (hs:d.size = sz) (S:SWK enc k w0 blk off d w) (ham:a < m) (hmb:m < b) (hb:b ≤ sz) (hsz:sz < 4611686018427387904) :
  Calls P 109 #[.slice (some ⟨blk,off,none⟩) sz cap,.int .i64 a,.int .i64 m,.int .i64 b,fv] w fun e w' =>
   e = .returned (.tuple #[]) ∧ ∃ d',SWK enc k w0 blk off d' w' ∧ RotOf a m b d d':=by
 have mixed:=Q.mixed; have t0:=Q.t0; have a0:=Q.a0; have z0:=Q.z0; have v0:=Q.v0; have t3:=Q.t3; have a3:=Q.a3; have z3:=Q.z3; have v3:=Q.v3; have t4:=Q.t4; have a4:=Q.a4; have z4:=Q.z4; have v4:=Q.v4; have t22:=Q.t22; have a22:=Q.a22; have z22:=Q.z22; have v22:=Q.v22; have aE:=Q.aE; have zE:=Q.zE
 have FG:=Q.fRot
 have eS:∀ args w,(callFunc 128 args).run P w = .ok (.enter 128 args) w:=enters_of Q.fSwap (by kernel_rfl) rfl
 have RR:Hid (RowK enc k w0 blk off d0):=R
 have SS:Hid (SWK enc k w0 blk off d w):=S
 have HD:Hid (d.size = sz):=hs
 have HD0:Hid (d0.size = sz):=hs0
 have w1:IntKind.i64.wrap ((m:Int) - (a:Int)) = ((m - a:Nat):Int):=by rw [IntKind.wrap_i64]; omega
 have w2:IntKind.i64.wrap ((b:Int) - (m:Int)) = ((b - m:Nat):Int):=by rw [IntKind.wrap_i64]; omega
 have QQ:Hid (Sb P k):=Q
 clear R S hs hs0 Q
 go_enter FG,Tryz.ntmps109
 go_wp2_with fail
 go_loopg [10,11] (b - a) (fun g1 vi vj wr=>∃ (i j:Nat) (dk:Array α),vi = .int .i64 i ∧ vj = .int .i64 j ∧ 0 < i ∧ 0 < j ∧ i ≤ m - a ∧ j ≤ b - m ∧ i + j ≤ g1 + 1 ∧ dk.size = sz ∧ Hid (SWK enc k w0 blk off dk wr) ∧ Hid (∀ d',RotOf (m - i) m (m + j) dk d' → RotOf a m b d d'))
 case atStart=>exact ⟨m - a,b - m,d,rfl,rfl,by omega,by omega,Nat.le_refl _,Nat.le_refl _,by omega,HD.out,SS,fun d' h=>by rwa [show m - (m - a) = a by omega,show m + (b - m) = b by omega] at h⟩
 case round =>
  clear w1 w2
  obtain ⟨i,j,dk,rfl,rfl,hi,hj,him,hjb,hg,hsk,SK,HR⟩:=hrel
  have wi:IntKind.i64.wrap ((m:Int) - (i:Int)) = ((m - i:Nat):Int):=by rw [IntKind.wrap_i64]; omega
  rcases Nat.lt_trichotomy i j with hlt | rfl | hgt
  ·have hne:¬ (i:Int) = (j:Int):=by omega
   have hng:¬ (i:Int) > (j:Int):=by omega
   have hng':¬ (j:Int) < (i:Int):=by omega
   obtain ⟨q,hq⟩:∃ q,m + j - i = q:=⟨_,rfl⟩
   have wmj:IntKind.i64.wrap ((m:Int) + (j:Int)) = (m:Int) + (j:Int):=by rw [IntKind.wrap_i64]; omega
   have wmji:IntKind.i64.wrap ((m:Int) + (j:Int) - (i:Int)) = (q:Int):=by rw [IntKind.wrap_i64]; omega
   have wji:IntKind.i64.wrap ((j:Int) - (i:Int)) = ((j - i:Nat):Int):=by rw [IntKind.wrap_i64]; omega
   have hc:=swapRange_any QQ.out enc fv blk off cap (m - i) q i sz d0 dk w0 wr RR.out HD0.out hsk SK.out (by omega) (by omega) hsz
   have HQ:Hid (m + j - i = q):=hq
   clear hq
   go_wp2_with (go_at_fn 128; refine hc.mono ?_; rintro e w1 ⟨rfl,d1,hw1,hd1⟩)
   rw [← HQ.out] at hd1
   go_roundg (i + (j - i) - 1)
   case measure=>omega
   case rel=>exact ⟨i,j - i,d1,rfl,rfl,hi,by omega,him,by omega,by omega,by rw [hd1.1]; exact hsk,hw1,fun d' h=>HR.out d' (rot_right (by omega) hlt hd1 h)⟩
  ·have hc:=swapRange_any QQ.out enc fv blk off cap (m - i) m i sz d0 dk w0 wr RR.out HD0.out hsk SK.out (by omega) (by omega) hsz
   go_wp2_with (go_at_fn 128; refine hc.mono ?_; rintro e w1 ⟨rfl,d1,hw1,hd1⟩)
   go_end0
   exact ⟨rfl,d1,hw1,HR.out d1 (rot_even (by omega) hd1)⟩
  ·have hne:¬ (i:Int) = (j:Int):=by omega
   have hng:(i:Int) > (j:Int):=by omega
   have wji:IntKind.i64.wrap ((i:Int) - (j:Int)) = ((i - j:Nat):Int):=by rw [IntKind.wrap_i64]; omega
   have hc:=swapRange_any QQ.out enc fv blk off cap (m - i) m j sz d0 dk w0 wr RR.out HD0.out hsk SK.out (by omega) (by omega) hsz
   go_wp2_with (go_at_fn 128; refine hc.mono ?_; rintro e w1 ⟨rfl,d1,hw1,hd1⟩)
   go_roundg (i - j + j - 1)
   case measure=>omega
   case rel=>exact ⟨i - j,j,d1,rfl,rfl,by omega,hj,by omega,hjb,by omega,by rw [hd1.1]; exact hsk,hw1,fun d' h=>HR.out d' (rot_left (by omega) hgt hd1 h)⟩
end Sa
end Go.Proofs.YtgpcilepkmckeaaGreatDoor

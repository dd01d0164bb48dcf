/-
What may be an atom; how an atom is written. The reference's Version: a version's parts, or that it is none.
-/
import Derived.Test.YtmhpjjjjgakpiaaGreatDoorCVerParse2
import Derived.Test.YtmhpjjjjgakpiaaGreatDoorCVerSignsK
namespace Go.Proofs.YtmhpjjjjgakpiaaGreatDoor
open Go.RowKit
set_option linter.unusedSimpArgs false
set_option linter.unusedVariables false
namespace Rl
open Ver (Bs li li_len li_drop S S_size S_li empty_is MaxLen Signs)
structure Vars (w:World):Prop where
 maxLen:MaxLen w
 signs:Signs w
theorem Vars.on {w w':World} (h:Vars w) (hb:Below w.heap.size w w'):Vars w':=⟨h.maxLen.on hb,h.signs.on hb⟩
theorem Vars.chg {w w':World} {Q:Nat → Prop} (h:Vars w) (hc:Blk.Chg Q w w') (h1:¬ Q 1) (h2:¬ Q 0):Vars w':=by
 refine ⟨?_,fun i hi=>?_⟩
 ·obtain ⟨m,hm⟩:=h.maxLen
  exact ⟨m,by rw [World.cell?_of_block (hc.block _ h.maxLen.lt h1)]; exact hm⟩
 ·have hh:=h.signs i hi
  rw [World.cell?_of_block (hc.block _ (Ver.lt_cell hh) h2)]
  exact hh
theorem okAt_rest (s:ByteArray) (j:Nat) (c:UInt8) (hb:c.toNat = Txt.b s j) (h0:j ≠ 0):Txt.okAt s j = nch c:=by
 unfold Txt.okAt nch lds mrs Txt.ltr Txt.dgt Txt.mrk
 rw [← hb,Bool.eq_iff_iff]
 simp [h0,UInt8.le_iff_toNat_le,← UInt8.toNat_inj]
theorem okAt_zero (s:ByteArray) (c:UInt8) (hb:c.toNat = Txt.b s 0):Txt.okAt s 0 = lds c:=by
 unfold Txt.okAt lds Txt.ltr Txt.dgt
 rw [← hb,Bool.eq_iff_iff]
 simp [UInt8.le_iff_toNat_le,← UInt8.toNat_inj]
theorem name_is (s:ByteArray):decide (Txt.nameOK s) = nmB (li s):=by
 by_cases h0:s.size = 0
 ·rw [(empty_is h0).2]
  exact decide_eq_false fun h=>by have:=h.1.1; omega
 ·obtain ⟨c,hc,hb⟩:=li_drop s 0 (by omega)
  rw [List.drop_zero] at hc
  rw [hc,Bool.eq_iff_iff,decide_eq_true_eq]
  show _ ↔ (decide (1 ≤ ((li s).drop (0 + 1)).length ∧ ((li s).drop (0 + 1)).length ≤ 23) && lds c && ((li s).drop (0 + 1)).all nch) = true
  simp only [Bool.and_eq_true,decide_eq_true_eq,List.length_drop,li_len]
  unfold Txt.nameOK
  constructor
  ·rintro ⟨h1,h2⟩
   refine ⟨⟨by omega,by rw [← okAt_zero s c hb]; exact h2 0 (by omega)⟩,?_⟩
   rw [List.all_eq_true]
   intro x hx
   obtain ⟨j,hj,rfl⟩:=List.mem_iff_getElem.1 hx
   rw [List.length_drop,li_len] at hj
   rw [List.getElem_drop]
   rw [← okAt_rest s (0 + 1 + j) _ _ (by omega)]
   ·exact h2 _ (by omega)
   ·unfold Txt.b; rw [dif_pos (by omega)]; rfl
  ·rintro ⟨⟨h1,h2⟩,h3⟩
   refine ⟨by omega,fun j hj=>?_⟩
   by_cases hj0:j = 0
   ·subst hj0; rw [okAt_zero s c hb]; exact h2
   ·have hl:j < (li s).length:=by rw [li_len]; exact hj
    rw [okAt_rest s j ((li s)[j]) (by unfold Txt.b; rw [dif_pos hj]; rfl) hj0]
    refine List.all_eq_true.1 h3 _ ?_
    rw [List.mem_iff_getElem]
    exact ⟨j - 1,by rw [List.length_drop]; omega,by rw [List.getElem_drop]; congr 1; omega⟩
theorem name_any (n:Bs) (w:World) (hs:n.length ≤ 4611686018427387904) :
  Calls Tryz.prog 84 #[.string (S n)] w fun e w'=>e = .returned (.bool (nmB n)) ∧ Below w.heap.size w w':=by
 have c:=Txt.name_any (S n) w (by rw [S_size]; omega)
 rwa [name_is,S_li] at c
theorem sgn_S (r:Int):Ver.sgnS r = S (sgnN r):=by
 unfold Ver.sgnS sgnN
 repeat' split
 all_goals rfl
theorem sgn_ne {r:Int} (h:1 ≤ r ∧ r ≤ 5):sgnN r ≠ []:=by
 have:r = 1 ∨ r = 2 ∨ r = 3 ∨ r = 4 ∨ r = 5:=by omega
 rcases this with rfl | rfl | rfl | rfl | rfl <;> decide
theorem sgn_no {r:Int} (h:¬ (1 ≤ r ∧ r ≤ 5)):sgnN r = []:=by
 unfold sgnN
 rw [if_neg (by omega),if_neg (by omega),if_neg (by omega),if_neg (by omega),if_neg (by omega)]
theorem isEmpty_S (l:Bs):(S l).toList.isEmpty = l.isEmpty:=by rw [Lib.toList_data]; show (l.toArray.toList).isEmpty = _; simp
theorem cells3 {w:World} {b:Nat} {T:TypeId} {x y z:Value} (h:Blk.Is w b T #[x,y,z]):w.cell? ⟨b,0,none⟩ = some x ∧ w.cell? ⟨b,1,none⟩ = some y ∧ w.cell? ⟨b,2,none⟩ = some z:=⟨h.at rfl,h.at rfl,h.at rfl⟩
theorem is_on {w w':World} {b:Nat} {T:TypeId} {cs:Array Value} (h:Blk.Is w b T cs) (hb:Below w.heap.size w w'):Blk.Is w' b T cs:=(Blk.Chg.ofBelow' (S:=fun _=>False) hb).is h (by simp)
def aV (a:At):Value:=.agg #[.string (S a.1),.int .i64 a.2.1,.string (S a.2.2)]
set_option maxRecDepth 100000 in
set_option maxHeartbeats 1000000 in
theorem mayAtom_any (a:At) (w:World) (h1:a.1.length ≤ 4611686018427387904) (h2:a.2.2.length ≤ 4611686018427387904) (hv:Vars w) :
  Calls Tryz.prog 89 #[aV a] w fun e w'=>e = .returned (.bool (may a)) ∧ Below w.heap.size w w':=by
 obtain ⟨n,r,v⟩:=a
 unfold aV
 simp only at h1 h2 ⊢
 have cn:=fun w=>name_any n w h1
 by_cases hr:r = 0
 ·subst hr
  have hm:may (n,0,v) = (nmB n && v.isEmpty):=by unfold may; simp
  rw [hm]
  have he:=isEmpty_S v
  generalize nmB n = g at *
  generalize v.isEmpty = d at *
  generalize S n = x at *
  generalize S v = y at *
  clear hv hm
  cases g <;> cases d
  all_goals
   have hb0:=Blk.Is.new w 54 #[.string x,.int .i64 0,.string y]
   have hB0:Below w.heap.size w (w.alloc (.cells #[.string x,.int .i64 0,.string y] 54)):=(Below.refl _ _).alloc (Nat.le_refl _) _
   go_enter Tryz.func89,Tryz.ntmps89
   go_wp2_with fail
   generalize w.alloc (.cells #[.string x,.int .i64 0,.string y] 54) = W at *
   refine (cn _).mono ?_
   rintro e w1 ⟨rfl,k1⟩
   obtain ⟨_,_,c2⟩:=cells3 (is_on hb0 k1)
   have k1':=hB0.trans (k1.mono hB0.size)
   clear hb0 hB0
   go_wp2_with fail
   go_ret
   exact ⟨rfl,k1'⟩
 ·have hm:may (n,r,v) = (nmB n && (decide (1 ≤ r ∧ r ≤ 5) && isV v)):=by unfold may; simp only; rw [if_neg hr]
  rw [hm]
  have cv:=fun w hm=>Ver.parse_any (S v) w (by rw [S_size]; omega) hm
  rw [S_li] at cv
  have cg:=fun w hg=>Ver.sign_any r w hg
  rw [sgn_S] at cg
  have he:=isEmpty_S (sgnN r)
  have hd:(sgnN r).isEmpty = !decide (1 ≤ r ∧ r ≤ 5):=by
   by_cases h:1 ≤ r ∧ r ≤ 5
   ·rw [decide_eq_true h]; have:=sgn_ne h; cases hs:sgnN r with
    | nil=>exact absurd hs this
    | cons c t=>rfl
   ·rw [decide_eq_false h,sgn_no h]; rfl
  rw [hd] at he
  obtain ⟨y1,y2,y3,m,ht,hi,hm3⟩:=Ver.told_shape (Ver.parse v)
  rw [ht] at cv
  have hiv:isV v = decide (m = 0):=by unfold isV; rw [Bool.eq_iff_iff,hi,decide_eq_true_eq]
  rw [hiv]
  generalize decide (1 ≤ r ∧ r ≤ 5) = d at *
  generalize nmB n = g at *
  generalize S (sgnN r) = sg at *
  generalize S n = x at *
  generalize S v = y at *
  have HV:=Lib.hid hv
  clear hv hm hd ht hi hiv
  rcases hm3 with rfl | rfl
  all_goals
   cases g <;> cases d
   all_goals
    simp only [Bool.not_true,Bool.not_false] at he
    have hr0:(r == 0) = false:=by simpa using hr
    have hb0:=Blk.Is.new w 54 #[.string x,.int .i64 r,.string y]
    have hB0:Below w.heap.size w (w.alloc (.cells #[.string x,.int .i64 r,.string y] 54)):=(Below.refl _ _).alloc (Nat.le_refl _) _
    go_enter Tryz.func89,Tryz.ntmps89
    go_wp2_with fail
    generalize w.alloc (.cells #[.string x,.int .i64 r,.string y] 54) = W at *
    refine (cv _ (HV.out.on hB0).maxLen).mono ?_
    rintro e w1 ⟨rfl,k1⟩
    have hb1:=is_on hb0 k1
    obtain ⟨c0,_,_⟩:=cells3 hb1
    have k1':=hB0.trans (k1.mono hB0.size)
    clear hb0 hB0 k1
    go_wp2_with fail
    refine (cn _).mono ?_
    rintro e w2 ⟨rfl,k2⟩
    obtain ⟨_,c1,_⟩:=cells3 (is_on hb1 k2)
    have k2':=k1'.trans (k2.mono k1'.size)
    clear hb1 k1' k2
    go_wp2_with fail
    try
     refine (cg _ (HV.out.on k2').signs).mono ?_
     rintro e w3 ⟨rfl,rfl⟩
     go_wp2_with fail
    go_ret
    exact ⟨rfl,k2'⟩
end Rl
end Go.Proofs.YtmhpjjjjgakpiaaGreatDoor
namespace Go.Proofs.YtmhpjjjjgakpiaaGreatDoor
open Go.RowKit
set_option linter.unusedSimpArgs false
set_option linter.unusedVariables false
namespace Ver
open Txt (b b_eq b_lt)
def FirstAt (s:ByteArray) (x:UInt8) (k:Int):Prop:=(k = -1 ∧ cut1 x (li s) = none) ∨ ∃ i:Nat,k = i ∧ i < s.size ∧ cut1 x (li s) = some ((li s).take i,(li s).drop (i + 1))
def LastAt (s:ByteArray) (x:UInt8) (k:Int):Prop:=(k = -1 ∧ cutZ x (li s) = none) ∨ ∃ i:Nat,k = i ∧ i < s.size ∧ cutZ x (li s) = some ((li s).take i,(li s).drop (i + 1))
set_option maxRecDepth 100000 in
theorem yfirst_any (s:ByteArray) (x:UInt8) (w:World) (hs:s.size ≤ 4611686018427387904) :
  Calls Tryz.prog 106 #[.string s,.int .u8 x.toNat] w fun e w'=>∃ k,e = .returned (.int .i64 k) ∧ FirstAt s x k ∧ w' = w:=by
 have hF:∀ i,i < s.size → b s i = x.toNat → (∀ j,j < i → b s j ≠ x.toNat) → FirstAt s x i:=fun i hi hx h=>.inr ⟨i,rfl,hi,cut1_at hi hx h⟩
 have hN:(∀ j,j < s.size → b s j ≠ x.toNat) → FirstAt s x (-1):=fun h=>.inl ⟨rfl,cut1_none h⟩
 have hxl:=UInt8.toNat_lt x
 have HF:=Lib.hid hF
 have HNO:=Lib.hid hN
 clear hF hN
 obtain ⟨X,hX⟩:∃ X,x.toNat = X:=⟨_,rfl⟩
 rw [hX] at HF HNO hxl ⊢
 clear hX
 go_enter Tryz.func106,Tryz.ntmps106
 go_wp2
 go_loopg [8] s.size (fun gf s8 wx=>∃ pos:Nat,s8 = .int .i64 pos ∧ wx = w ∧ Hid (∀ j,j < pos → b s j ≠ X) ∧ s.size ≤ pos + gf ∧ pos ≤ s.size)
 case atStart=>exact ⟨0,rfl,rfl,fun j hj=>by omega,by omega,by omega⟩
 case round =>
  obtain ⟨pos,rfl,rfl,HN,hfu,hps⟩:=hrel
  by_cases hlt:pos < s.size
  ·obtain ⟨g',rfl⟩:∃ g',gk = g' + 1:=⟨gk - 1,by omega⟩
   have hlt':(pos:Int) < (s.size:Int):=by omega
   have hbc:=b_eq s pos hlt
   have hbl:=b_lt s pos
   by_cases hc:b s pos = X
   ·have HK:=Lib.hid (HF.out pos hlt hc HN.out)
    rw [hc] at hbc hbl
    clear HF HNO HN hc
    go_wp2_with fail
    go_ret
    exact ⟨_,rfl,HK.out,rfl⟩
   ·have HM:Hid (∀ j,j < pos + 1 → b s j ≠ X):=fun j hj=>by
     by_cases e:j = pos
     ·subst e; exact hc
     ·exact HN.out j (by omega)
    obtain ⟨c,hcc⟩:∃ c,b s pos = c:=⟨_,rfl⟩
    rw [hcc] at hbc hbl hc
    have hne:((c:Int) == (X:Int)) = false:=by simp; omega
    clear hcc HN
    go_wp2_with fail
    go_roundg g'
    case measure=>omega
    case rel=>exact ⟨pos + 1,by go_num,rfl,HM,by omega,by omega⟩
  ·have hge:¬ (pos:Int) < (s.size:Int):=by omega
   have HK:=Lib.hid (HNO.out fun j hj=>HN.out j (by omega))
   clear HF HNO HN
   go_wp2_with fail
   go_ret
   exact ⟨_,rfl,HK.out,rfl⟩
set_option maxRecDepth 100000 in
theorem ylast_any (s:ByteArray) (x:UInt8) (w:World) (hs:s.size ≤ 4611686018427387904) :
  Calls Tryz.prog 107 #[.string s,.int .u8 x.toNat] w fun e w'=>∃ k,e = .returned (.int .i64 k) ∧ LastAt s x k ∧ w' = w:=by
 have hF:∀ i,i < s.size → b s i = x.toNat → (∀ j,i < j → j < s.size → b s j ≠ x.toNat) → LastAt s x i:=fun i hi hx h=>.inr ⟨i,rfl,hi,cutZ_at hi hx h⟩
 have hN:(∀ j,j < s.size → b s j ≠ x.toNat) → LastAt s x (-1):=fun h=>.inl ⟨rfl,cutZ_none h⟩
 have hxl:=UInt8.toNat_lt x
 have HF:=Lib.hid hF
 have HNO:=Lib.hid hN
 clear hF hN
 obtain ⟨X,hX⟩:∃ X,x.toNat = X:=⟨_,rfl⟩
 rw [hX] at HF HNO hxl ⊢
 clear hX
 go_enter Tryz.func107,Tryz.ntmps107
 go_wp2
 go_loopg [5] s.size (fun gf s5 wx=>s5 = .int .i64 ((gf:Int) - 1) ∧ wx = w ∧ Hid (∀ j,gf ≤ j → j < s.size → b s j ≠ X) ∧ gf ≤ s.size)
 case atStart=>exact ⟨rfl,rfl,fun j h1 h2=>by omega,Nat.le_refl _⟩
 case round =>
  obtain ⟨rfl,rfl,HN,hfu⟩:=hrel
  by_cases h0:gk = 0
  ·subst h0
   have HK:=Lib.hid (HNO.out fun j hj=>HN.out j (by omega) hj)
   clear HF HNO HN
   go_wp2_with fail
   go_ret
   exact ⟨_,rfl,HK.out,rfl⟩
  ·obtain ⟨g',rfl⟩:∃ g',gk = g' + 1:=⟨gk - 1,by omega⟩
   have hg:((g' + 1:Nat):Int) - 1 = (g':Int):=by omega
   rw [hg]
   have hlt':(g':Int) < (s.size:Int):=by omega
   have hlt:g' < s.size:=by omega
   have hbc:=b_eq s g' hlt
   have hbl:=b_lt s g'
   by_cases hc:b s g' = X
   ·have HK:=Lib.hid (HF.out g' hlt hc fun j h1 h2=>HN.out j (by omega) h2)
    rw [hc] at hbc hbl
    clear HF HNO HN hc hg
    go_wp2_with fail
    go_ret
    exact ⟨_,rfl,HK.out,rfl⟩
   ·have HM:Hid (∀ j,g' ≤ j → j < s.size → b s j ≠ X):=fun j h1 h2=>by
     by_cases e:j = g'
     ·subst e; exact hc
     ·exact HN.out j (by omega) h2
    obtain ⟨c,hcc⟩:∃ c,b s g' = c:=⟨_,rfl⟩
    rw [hcc] at hbc hbl hc
    have hne:((c:Int) == (X:Int)) = false:=by simp; omega
    clear hcc HN hg
    go_wp2_with fail
    go_roundg g'
    case measure=>omega
    case rel=>exact ⟨by go_num,rfl,HM,by omega⟩
end Ver
end Go.Proofs.YtmhpjjjjgakpiaaGreatDoor

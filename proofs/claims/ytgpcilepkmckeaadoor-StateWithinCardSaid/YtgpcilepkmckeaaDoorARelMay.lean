/-
What may be an atom; how an atom is written.
-/
import Derived.Test.YtgpcilepkmckeaaDoorAVerSmall
import Derived.Test.YtgpcilepkmckeaaDoorARelDef
import Derived.Test.YtgpcilepkmckeaaDoorShelf
import Derived.Test.YtgpcilepkmckeaaDoorATextUtf
import Derived.Test.YtgpcilepkmckeaaDoorAVerPartK
import Derived.Laws.Runes
import Derived.Deep.QuietTactic
import Derived.StillTailTactics
import Derived.WalkMore
import Derived.WalkKit
import Derived.ProofKit
import Derived.Below
import Derived.Lib.Hide
import Derived.LoopN
import Derived.Deep.LoopGhost
import Derived.Lib.OthersKept
import Derived.IntWalk
import Derived.Test.YtgpcilepkmckeaaDoorAVerParse
import Derived.Test.YtgpcilepkmckeaaDoorABlk
import Derived.BigQuiet
import Derived.Test.YtgpcilepkmckeaaDoorATextSmallK
import Derived.Test.YtgpcilepkmckeaaDoorAVerParse2
import Derived.Test.YtgpcilepkmckeaaDoorAVerSignsK
namespace Go.Proofs.YtgpcilepkmckeaaDoor
open Go.RowKit
set_option linter.unusedSimpArgs false
set_option linter.unusedVariables false
namespace Rl
open Ver (Bs li li_len li_drop S S_size S_li empty_is MaxLen Signs)
structure Vars (w:World):Prop where
 maxLen:MaxLen w
 signs:Signs w
theorem Vars.on {w w':World} (h:Vars w) (hb:Below w.heap.size w w'):Vars w':=⟨h.maxLen.on hb,h.signs.on hb⟩
theorem okAt_rest (s:ByteArray) (j:Nat) (c:UInt8) (hb:c.toNat = Txt.b s j) (h0:j ≠ 0):Txt.okAt s j = nch c:=by
 unfold Txt.okAt nch lds mrs Txt.ltr Txt.dgt Txt.mrk
 rw [← hb,Bool.eq_iff_iff]
 simp [h0,UInt8.le_iff_toNat_le,← UInt8.toNat_inj]
theorem okAt_zero (s:ByteArray) (c:UInt8) (hb:c.toNat = Txt.b s 0):Txt.okAt s 0 = lds c:=by
 unfold Txt.okAt lds Txt.ltr Txt.dgt
 rw [← hb,Bool.eq_iff_iff]
 simp [UInt8.le_iff_toNat_le,← UInt8.toNat_inj]
theorem name_is (s:ByteArray):decide (Txt.nameOK s) = nmB (li s):=by
 by_cases h0:s.size = 0
 ·rw [(empty_is h0).2]
  exact decide_eq_false fun h=>by have:=h.1.1; omega
 ·obtain ⟨c,hc,hb⟩:=li_drop s 0 (by omega)
  rw [List.drop_zero] at hc
  rw [hc,Bool.eq_iff_iff,decide_eq_true_eq]
  show _ ↔ (decide (1 ≤ ((li s).drop (0 + 1)).length ∧ ((li s).drop (0 + 1)).length ≤ 23) && lds c && ((li s).drop (0 + 1)).all nch) = true
  simp only [Bool.and_eq_true,decide_eq_true_eq,List.length_drop,li_len]
  unfold Txt.nameOK
  constructor
  ·rintro ⟨h1,h2⟩
   refine ⟨⟨by omega,by rw [← okAt_zero s c hb]; exact h2 0 (by omega)⟩,?_⟩
   rw [List.all_eq_true]
   intro x hx
   obtain ⟨j,hj,rfl⟩:=List.mem_iff_getElem.1 hx
   rw [List.length_drop,li_len] at hj
   rw [List.getElem_drop]
   rw [← okAt_rest s (0 + 1 + j) _ _ (by omega)]
   ·exact h2 _ (by omega)
   ·unfold Txt.b; rw [dif_pos (by omega)]; rfl
  ·rintro ⟨⟨h1,h2⟩,h3⟩
   refine ⟨by omega,fun j hj=>?_⟩
   by_cases hj0:j = 0
   ·subst hj0; rw [okAt_zero s c hb]; exact h2
   ·have hl:j < (li s).length:=by rw [li_len]; exact hj
    rw [okAt_rest s j ((li s)[j]) (by unfold Txt.b; rw [dif_pos hj]; rfl) hj0]
    refine List.all_eq_true.1 h3 _ ?_
    rw [List.mem_iff_getElem]
    exact ⟨j - 1,by rw [List.length_drop]; omega,by rw [List.getElem_drop]; congr 1; omega⟩
theorem name_any (n:Bs) (w:World) (hs:n.length ≤ 4611686018427387904) :
  Calls Tryd.prog 41 #[.string (S n)] w fun e w'=>e = .returned (.bool (nmB n)) ∧ Below w.heap.size w w':=by
 have c:=Txt.name_any (S n) w (by rw [S_size]; omega)
 rwa [name_is,S_li] at c
theorem sgn_S (r:Int):Ver.sgnS r = S (sgnN r):=by
 unfold Ver.sgnS sgnN
 repeat' split
 all_goals rfl
theorem sgn_ne {r:Int} (h:1 ≤ r ∧ r ≤ 5):sgnN r ≠ []:=by
 have:r = 1 ∨ r = 2 ∨ r = 3 ∨ r = 4 ∨ r = 5:=by omega
 rcases this with rfl | rfl | rfl | rfl | rfl <;> decide
theorem sgn_no {r:Int} (h:¬ (1 ≤ r ∧ r ≤ 5)):sgnN r = []:=by
 unfold sgnN
 rw [if_neg (by omega),if_neg (by omega),if_neg (by omega),if_neg (by omega),if_neg (by omega)]
theorem isEmpty_S (l:Bs):(S l).toList.isEmpty = l.isEmpty:=by rw [Lib.toList_data]; show (l.toArray.toList).isEmpty = _; simp
theorem cells3 {w:World} {b:Nat} {T:TypeId} {x y z:Value} (h:Blk.Is w b T #[x,y,z]):w.cell? ⟨b,0,none⟩ = some x ∧ w.cell? ⟨b,1,none⟩ = some y ∧ w.cell? ⟨b,2,none⟩ = some z:=⟨h.at rfl,h.at rfl,h.at rfl⟩
theorem is_on {w w':World} {b:Nat} {T:TypeId} {cs:Array Value} (h:Blk.Is w b T cs) (hb:Below w.heap.size w w'):Blk.Is w' b T cs:=(Blk.Chg.ofBelow' (S:=fun _=>False) hb).is h (by simp)
def aV (a:At):Value:=.agg #[.string (S a.1),.int .i64 a.2.1,.string (S a.2.2)]
set_option maxRecDepth 100000 in
set_option maxHeartbeats 1000000 in
theorem mayAtom_any (a:At) (w:World) (h1:a.1.length ≤ 4611686018427387904) (h2:a.2.2.length ≤ 4611686018427387904) (hv:Vars w) :
  Calls Tryd.prog 30 #[aV a] w fun e w'=>e = .returned (.bool (may a)) ∧ Below w.heap.size w w':=by
 obtain ⟨n,r,v⟩:=a
 unfold aV
 simp only at h1 h2 ⊢
 have cn:=fun w=>name_any n w h1
 by_cases hr:r = 0
 ·subst hr
  have hm:may (n,0,v) = (nmB n && v.isEmpty):=by unfold may; simp
  rw [hm]
  have he:=isEmpty_S v
  generalize nmB n = g at *
  generalize v.isEmpty = d at *
  generalize S n = x at *
  generalize S v = y at *
  clear hv hm
  cases g <;> cases d
  all_goals
   have hb0:=Blk.Is.new w 47 #[.string x,.int .i64 0,.string y]
   have hB0:Below w.heap.size w (w.alloc (.cells #[.string x,.int .i64 0,.string y] 47)):=(Below.refl _ _).alloc (Nat.le_refl _) _
   go_enter Tryd.func30,Tryd.ntmps30
   go_wp2_with fail
   generalize w.alloc (.cells #[.string x,.int .i64 0,.string y] 47) = W at *
   refine (cn _).mono ?_
   rintro e w1 ⟨rfl,k1⟩
   obtain ⟨_,_,c2⟩:=cells3 (is_on hb0 k1)
   have k1':=hB0.trans (k1.mono hB0.size)
   clear hb0 hB0
   go_wp2_with fail
   go_ret
   exact ⟨rfl,k1'⟩
 ·have hm:may (n,r,v) = (nmB n && (decide (1 ≤ r ∧ r ≤ 5) && isV v)):=by unfold may; simp only; rw [if_neg hr]
  rw [hm]
  have cv:=fun w hm=>Ver.parse_any (S v) w (by rw [S_size]; omega) hm
  rw [S_li] at cv
  have cg:=fun w hg=>Ver.sign_any r w hg
  rw [sgn_S] at cg
  have he:=isEmpty_S (sgnN r)
  have hd:(sgnN r).isEmpty = !decide (1 ≤ r ∧ r ≤ 5):=by
   by_cases h:1 ≤ r ∧ r ≤ 5
   ·rw [decide_eq_true h]; have:=sgn_ne h; cases hs:sgnN r with
    | nil=>exact absurd hs this
    | cons c t=>rfl
   ·rw [decide_eq_false h,sgn_no h]; rfl
  rw [hd] at he
  obtain ⟨y1,y2,y3,m,ht,hi,hm3⟩:=Ver.told_shape (Ver.parse v)
  rw [ht] at cv
  have hiv:isV v = decide (m = 0):=by unfold isV; rw [Bool.eq_iff_iff,hi,decide_eq_true_eq]
  rw [hiv]
  generalize decide (1 ≤ r ∧ r ≤ 5) = d at *
  generalize nmB n = g at *
  generalize S (sgnN r) = sg at *
  generalize S n = x at *
  generalize S v = y at *
  have HV:=Lib.hid hv
  clear hv hm hd ht hi hiv
  rcases hm3 with rfl | rfl
  all_goals
   cases g <;> cases d
   all_goals
    simp only [Bool.not_true,Bool.not_false] at he
    have hr0:(r == 0) = false:=by simpa using hr
    have hb0:=Blk.Is.new w 47 #[.string x,.int .i64 r,.string y]
    have hB0:Below w.heap.size w (w.alloc (.cells #[.string x,.int .i64 r,.string y] 47)):=(Below.refl _ _).alloc (Nat.le_refl _) _
    go_enter Tryd.func30,Tryd.ntmps30
    go_wp2_with fail
    generalize w.alloc (.cells #[.string x,.int .i64 r,.string y] 47) = W at *
    refine (cv _ (HV.out.on hB0).maxLen).mono ?_
    rintro e w1 ⟨rfl,k1⟩
    have hb1:=is_on hb0 k1
    obtain ⟨c0,_,_⟩:=cells3 hb1
    have k1':=hB0.trans (k1.mono hB0.size)
    clear hb0 hB0 k1
    go_wp2_with fail
    refine (cn _).mono ?_
    rintro e w2 ⟨rfl,k2⟩
    obtain ⟨_,c1,_⟩:=cells3 (is_on hb1 k2)
    have k2':=k1'.trans (k2.mono k1'.size)
    clear hb1 k1' k2
    go_wp2_with fail
    try
     refine (cg _ (HV.out.on k2').signs).mono ?_
     rintro e w3 ⟨rfl,rfl⟩
     go_wp2_with fail
    go_ret
    exact ⟨rfl,k2'⟩
end Rl
end Go.Proofs.YtgpcilepkmckeaaDoor

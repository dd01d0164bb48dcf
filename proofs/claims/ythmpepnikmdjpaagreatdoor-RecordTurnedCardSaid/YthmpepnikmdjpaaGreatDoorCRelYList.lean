/-
parse, Parse, ParseAtoms, ParseProvides, ParseAtom. ParseAtom. The reference's reader: peek, word. The reference's reader and an atom that is being read. The reference's AtomList. The reference's ProvideList. The reference's Relation.
-/
import Derived.Test.YthmpepnikmdjpaaGreatDoorCRelLists
import Derived.Test.YthmpepnikmdjpaaGreatDoorCVerRefParse
import Derived.Test.YthmpepnikmdjpaaGreatDoorCRelAtom
import Derived.StillTailTactics
import Derived.Deep.QuietTactic
import Derived.BigQuiet
import Derived.Test.YthmpepnikmdjpaaGreatDoorCValSort
namespace Go.Proofs.YthmpepnikmdjpaaGreatDoor
open Go.RowKit
set_option linter.unusedSimpArgs false
set_option linter.unusedVariables false
namespace Rl
open Ver (Bs li li_len li_drop S S_self S_of S_size S_li below_drewN empty_is empty_no MaxLen Signs)
def WholeC (w:World) (o:Except Int (List (List At))) (e:Ending) (w':World):Prop :=
 Below w.heap.size w w' ∧ match o with
  | .error er=>e = .returned (.tuple #[.slice none 0 0,.int .i64 er])
  | .ok xs=>∃ v vs,e = .returned (.tuple #[v,.int .i64 0]) ∧ w'.ownsRow w.heap.size 72 1 v xs.length vs ∧ Cls w' w.heap.size vs xs
theorem chg_new {w u u':World} {p:Nat} (hb:Below w.heap.size w u) (hp:w.heap.size ≤ p) (hc:Blk.Chg (fun k=>k = p) u u'):Below w.heap.size w u' :=
 hb.trans (hc.below (fun k hk=>by omega) hb.size)
set_option maxRecDepth 100000 in
set_option maxHeartbeats 4000000 in
theorem parseC_any (s:ByteArray) (w:World) (hs:s.size ≤ 4611686018427387904) (hv:Vars w) :
  Calls Tryz.prog 205 #[.string s,.func (.func 206) #[] #[]] w fun e w'=>WholeC w (whole rdC (li s)) e w':=by
 have cn:=fun w=>new_any s w hs
 have hob:=fun b=>hv.off (b:=b)
 have HOB:=Lib.hid hob
 have HV:=Lib.hid hv
 clear hv hob
 unfold whole
 by_cases h0:skip (li s) = []
 ·rw [if_pos h0]
  rw [h0] at cn
  clear h0
  go_enter Tryz.func205,Tryz.ntmps205
  go_wp2_with fail
  refine (cn _).mono ?_
  rintro e w1 ⟨p,rfl,k1,k2,k3⟩
  have cd:=fun w h=>done_any p [] w h
  simp only [decide_true] at cd
  go_wp2_with fail
  refine (cd _ k2).mono ?_
  rintro e w2 ⟨rfl,rfl⟩
  go_wp2_with fail
  go_ret2
  exact ⟨k3,_,[],rfl,World.ownsRow_nil _ _ _ 1,Cls.nil _ _⟩
 ·rw [if_neg h0]
  obtain ⟨l,hl⟩:∃ l,skip (li s) = l:=⟨_,rfl⟩
  rw [hl] at h0 cn ⊢
  have cd0:=fun p w h=>done_any p l w h
  simp only [decide_eq_false h0] at cd0
  have cl:=fun p w h hv hp=>listC_any p l 12 44 w h hv hp (by omega)
  clear hl h0
  cases hq:items rdC 44 12 l with
  | error er =>
   have her:=items_er (fun l e=>rdC_err) 44 12 l er hq
   have he0:(er == 0) = false:=by rw [beq_eq_false_iff_ne]; omega
   rw [hq] at cl
   unfold PostC at cl
   unfold WholeC
   simp only at cl ⊢
   clear her hq
   go_enter Tryz.func205,Tryz.ntmps205
   go_wp2_with fail
   refine (cn _).mono ?_
   rintro e w1 ⟨p,rfl,k1,k2,k3⟩
   go_wp2_with fail
   refine (cd0 p _ k2).mono ?_
   rintro e w2 ⟨rfl,rfl⟩
   go_wp2_with fail
   refine (cl p _ k2 (HV.out.on k3) (HOB.out p k1)).mono ?_
   rintro e w3 ⟨k4,rfl,k5⟩
   go_wp2_with fail
   go_ret2
   exact ⟨chg_new k3 k1 k4,rfl⟩
  | ok q =>
   obtain ⟨xs,r⟩:=q
   rw [hq] at cl
   unfold PostC at cl
   unfold WholeC
   simp only at cl ⊢
   clear hq
   by_cases hr:r = []
   ·subst hr
    rw [if_pos rfl]
    simp only
    have cd1:=fun p w h=>done_any p [] w h
    simp only [decide_true] at cd1
    go_enter Tryz.func205,Tryz.ntmps205
    go_wp2_with fail
    refine (cn _).mono ?_
    rintro e w1 ⟨p,rfl,k1,k2,k3⟩
    go_wp2_with fail
    refine (cd0 p _ k2).mono ?_
    rintro e w2 ⟨rfl,rfl⟩
    go_wp2_with fail
    refine (cl p _ k2 (HV.out.on k3) (HOB.out p k1)).mono ?_
    rintro e w3 ⟨k4,k5,v,vs,rfl,k6,k7⟩
    go_wp2_with fail
    refine (cd1 p _ k5).mono ?_
    rintro e w4 ⟨rfl,rfl⟩
    go_wp2_with fail
    go_ret2
    exact ⟨chg_new k3 k1 k4,_,_,rfl,own_mono k6 k3.size,k7.mono k3.size⟩
   ·rw [if_neg hr]
    simp only
    have cd1:=fun p w h=>done_any p r w h
    simp only [decide_eq_false hr] at cd1
    clear hr
    go_enter Tryz.func205,Tryz.ntmps205
    go_wp2_with fail
    refine (cn _).mono ?_
    rintro e w1 ⟨p,rfl,k1,k2,k3⟩
    go_wp2_with fail
    refine (cd0 p _ k2).mono ?_
    rintro e w2 ⟨rfl,rfl⟩
    go_wp2_with fail
    refine (cl p _ k2 (HV.out.on k3) (HOB.out p k1)).mono ?_
    rintro e w3 ⟨k4,k5,v,vs,rfl,k6,k7⟩
    go_wp2_with fail
    refine (cd1 p _ k5).mono ?_
    rintro e w4 ⟨rfl,rfl⟩
    go_wp2_with fail
    go_ret2
    exact ⟨chg_new k3 k1 k4,rfl⟩
def WholeA (w:World) (o:Except Int (List At)) (e:Ending) (w':World):Prop :=
 Below w.heap.size w w' ∧ match o with
  | .error er=>e = .returned (.tuple #[.slice none 0 0,.int .i64 er])
  | .ok xs=>∃ v,e = .returned (.tuple #[v,.int .i64 0]) ∧ w'.ownsRow w.heap.size 78 3 v xs.length (acells xs)
def WholeP (w:World) (o:Except Int (List Pv)) (e:Ending) (w':World):Prop :=
 Below w.heap.size w w' ∧ match o with
  | .error er=>e = .returned (.tuple #[.slice none 0 0,.int .i64 er])
  | .ok xs=>∃ v,e = .returned (.tuple #[v,.int .i64 0]) ∧ w'.ownsRow w.heap.size 82 2 v xs.length (pcells xs)
set_option maxRecDepth 100000 in
set_option maxHeartbeats 4000000 in
theorem parseA_any (s:ByteArray) (w:World) (hs:s.size ≤ 4611686018427387904) (hv:Vars w) :
  Calls Tryz.prog 207 #[.string s,.func (.func 208) #[] #[]] w fun e w'=>WholeA w (whole rdA (li s)) e w':=by
 have cn:=fun w=>new_any s w hs
 have hob:=fun b=>hv.off (b:=b)
 have HOB:=Lib.hid hob
 have HV:=Lib.hid hv
 clear hv hob
 unfold whole
 by_cases h0:skip (li s) = []
 ·rw [if_pos h0]
  rw [h0] at cn
  clear h0
  go_enter Tryz.func207,Tryz.ntmps207
  go_wp2_with fail
  refine (cn _).mono ?_
  rintro e w1 ⟨p,rfl,k1,k2,k3⟩
  have cd:=fun w h=>done_any p [] w h
  simp only [decide_true] at cd
  go_wp2_with fail
  refine (cd _ k2).mono ?_
  rintro e w2 ⟨rfl,rfl⟩
  go_wp2_with fail
  go_ret2
  exact ⟨k3,_,rfl,World.ownsRow_nil _ _ _ 3⟩
 ·rw [if_neg h0]
  obtain ⟨l,hl⟩:∃ l,skip (li s) = l:=⟨_,rfl⟩
  rw [hl] at h0 cn ⊢
  have cd0:=fun p w h=>done_any p l w h
  simp only [decide_eq_false h0] at cd0
  have cl:=fun p w h hv hp=>listA_any p l 12 44 w h hv hp (by omega)
  clear hl h0
  cases hq:items rdA 44 12 l with
  | error er =>
   have her:=items_er rdA_er 44 12 l er hq
   have he0:(er == 0) = false:=by rw [beq_eq_false_iff_ne]; omega
   rw [hq] at cl
   unfold PostA at cl
   unfold WholeA
   simp only at cl ⊢
   clear her hq
   go_enter Tryz.func207,Tryz.ntmps207
   go_wp2_with fail
   refine (cn _).mono ?_
   rintro e w1 ⟨p,rfl,k1,k2,k3⟩
   go_wp2_with fail
   refine (cd0 p _ k2).mono ?_
   rintro e w2 ⟨rfl,rfl⟩
   go_wp2_with fail
   refine (cl p _ k2 (HV.out.on k3) (HOB.out p k1)).mono ?_
   rintro e w3 ⟨k4,rfl,k5⟩
   go_wp2_with fail
   go_ret2
   exact ⟨chg_new k3 k1 k4,rfl⟩
  | ok q =>
   obtain ⟨xs,r⟩:=q
   rw [hq] at cl
   unfold PostA at cl
   unfold WholeA
   simp only at cl ⊢
   clear hq
   by_cases hr:r = []
   ·subst hr
    rw [if_pos rfl]
    simp only
    have cd1:=fun p w h=>done_any p [] w h
    simp only [decide_true] at cd1
    go_enter Tryz.func207,Tryz.ntmps207
    go_wp2_with fail
    refine (cn _).mono ?_
    rintro e w1 ⟨p,rfl,k1,k2,k3⟩
    go_wp2_with fail
    refine (cd0 p _ k2).mono ?_
    rintro e w2 ⟨rfl,rfl⟩
    go_wp2_with fail
    refine (cl p _ k2 (HV.out.on k3) (HOB.out p k1)).mono ?_
    rintro e w3 ⟨k4,k5,v,rfl,k6⟩
    go_wp2_with fail
    refine (cd1 p _ k5).mono ?_
    rintro e w4 ⟨rfl,rfl⟩
    go_wp2_with fail
    go_ret2
    exact ⟨chg_new k3 k1 k4,_,rfl,own_mono k6 k3.size⟩
   ·rw [if_neg hr]
    simp only
    have cd1:=fun p w h=>done_any p r w h
    simp only [decide_eq_false hr] at cd1
    clear hr
    go_enter Tryz.func207,Tryz.ntmps207
    go_wp2_with fail
    refine (cn _).mono ?_
    rintro e w1 ⟨p,rfl,k1,k2,k3⟩
    go_wp2_with fail
    refine (cd0 p _ k2).mono ?_
    rintro e w2 ⟨rfl,rfl⟩
    go_wp2_with fail
    refine (cl p _ k2 (HV.out.on k3) (HOB.out p k1)).mono ?_
    rintro e w3 ⟨k4,k5,v,rfl,k6⟩
    go_wp2_with fail
    refine (cd1 p _ k5).mono ?_
    rintro e w4 ⟨rfl,rfl⟩
    go_wp2_with fail
    go_ret2
    exact ⟨chg_new k3 k1 k4,rfl⟩
set_option maxRecDepth 100000 in
set_option maxHeartbeats 4000000 in
theorem parseP_any (s:ByteArray) (w:World) (hs:s.size ≤ 4611686018427387904) (hv:Vars w) :
  Calls Tryz.prog 209 #[.string s,.func (.func 210) #[] #[]] w fun e w'=>WholeP w (whole rdP (li s)) e w':=by
 have cn:=fun w=>new_any s w hs
 have hob:=fun b=>hv.off (b:=b)
 have HOB:=Lib.hid hob
 have HV:=Lib.hid hv
 clear hv hob
 unfold whole
 by_cases h0:skip (li s) = []
 ·rw [if_pos h0]
  rw [h0] at cn
  clear h0
  go_enter Tryz.func209,Tryz.ntmps209
  go_wp2_with fail
  refine (cn _).mono ?_
  rintro e w1 ⟨p,rfl,k1,k2,k3⟩
  have cd:=fun w h=>done_any p [] w h
  simp only [decide_true] at cd
  go_wp2_with fail
  refine (cd _ k2).mono ?_
  rintro e w2 ⟨rfl,rfl⟩
  go_wp2_with fail
  go_ret2
  exact ⟨k3,_,rfl,World.ownsRow_nil _ _ _ 2⟩
 ·rw [if_neg h0]
  obtain ⟨l,hl⟩:∃ l,skip (li s) = l:=⟨_,rfl⟩
  rw [hl] at h0 cn ⊢
  have cd0:=fun p w h=>done_any p l w h
  simp only [decide_eq_false h0] at cd0
  have cl:=fun p w h hv hp=>listP_any p l 12 44 w h hv hp (by omega)
  clear hl h0
  cases hq:items rdP 44 12 l with
  | error er =>
   have her:=items_er (fun l e h=>.inl (rdP_err h)) 44 12 l er hq
   have he0:(er == 0) = false:=by rw [beq_eq_false_iff_ne]; omega
   rw [hq] at cl
   unfold PostP at cl
   unfold WholeP
   simp only at cl ⊢
   clear her hq
   go_enter Tryz.func209,Tryz.ntmps209
   go_wp2_with fail
   refine (cn _).mono ?_
   rintro e w1 ⟨p,rfl,k1,k2,k3⟩
   go_wp2_with fail
   refine (cd0 p _ k2).mono ?_
   rintro e w2 ⟨rfl,rfl⟩
   go_wp2_with fail
   refine (cl p _ k2 (HV.out.on k3) (HOB.out p k1)).mono ?_
   rintro e w3 ⟨k4,rfl,k5⟩
   go_wp2_with fail
   go_ret2
   exact ⟨chg_new k3 k1 k4,rfl⟩
  | ok q =>
   obtain ⟨xs,r⟩:=q
   rw [hq] at cl
   unfold PostP at cl
   unfold WholeP
   simp only at cl ⊢
   clear hq
   by_cases hr:r = []
   ·subst hr
    rw [if_pos rfl]
    simp only
    have cd1:=fun p w h=>done_any p [] w h
    simp only [decide_true] at cd1
    go_enter Tryz.func209,Tryz.ntmps209
    go_wp2_with fail
    refine (cn _).mono ?_
    rintro e w1 ⟨p,rfl,k1,k2,k3⟩
    go_wp2_with fail
    refine (cd0 p _ k2).mono ?_
    rintro e w2 ⟨rfl,rfl⟩
    go_wp2_with fail
    refine (cl p _ k2 (HV.out.on k3) (HOB.out p k1)).mono ?_
    rintro e w3 ⟨k4,k5,v,rfl,k6⟩
    go_wp2_with fail
    refine (cd1 p _ k5).mono ?_
    rintro e w4 ⟨rfl,rfl⟩
    go_wp2_with fail
    go_ret2
    exact ⟨chg_new k3 k1 k4,_,rfl,own_mono k6 k3.size⟩
   ·rw [if_neg hr]
    simp only
    have cd1:=fun p w h=>done_any p r w h
    simp only [decide_eq_false hr] at cd1
    clear hr
    go_enter Tryz.func209,Tryz.ntmps209
    go_wp2_with fail
    refine (cn _).mono ?_
    rintro e w1 ⟨p,rfl,k1,k2,k3⟩
    go_wp2_with fail
    refine (cd0 p _ k2).mono ?_
    rintro e w2 ⟨rfl,rfl⟩
    go_wp2_with fail
    refine (cl p _ k2 (HV.out.on k3) (HOB.out p k1)).mono ?_
    rintro e w3 ⟨k4,k5,v,rfl,k6⟩
    go_wp2_with fail
    refine (cd1 p _ k5).mono ?_
    rintro e w4 ⟨rfl,rfl⟩
    go_wp2_with fail
    go_ret2
    exact ⟨chg_new k3 k1 k4,rfl⟩
theorem Parse_any (s:ByteArray) (w:World) (hs:s.size ≤ 4611686018427387904) (hv:Vars w) :
  Calls Tryz.prog 157 #[.string s] w fun e w'=>WholeC w (whole rdC (li s)) e w':=by
 have c:=parseC_any s w hs hv
 clear hv hs
 cases hq:whole rdC (li s) with
 | error er =>
  rw [hq] at c
  unfold WholeC at c ⊢
  simp only at c ⊢
  clear hq
  go_enter Tryz.func157,Tryz.ntmps157
  go_wp2_with fail
  refine c.mono ?_
  rintro e w1 ⟨k1,rfl⟩
  go_wp2_with fail
  go_ret2
  exact ⟨k1,rfl⟩
 | ok xs =>
  rw [hq] at c
  unfold WholeC at c ⊢
  simp only at c ⊢
  clear hq
  go_enter Tryz.func157,Tryz.ntmps157
  go_wp2_with fail
  refine c.mono ?_
  rintro e w1 ⟨k1,v,vs,rfl,k2,k3⟩
  go_wp2_with fail
  go_ret2
  exact ⟨k1,_,_,rfl,k2,k3⟩
theorem ParseAtoms_any (s:ByteArray) (w:World) (hs:s.size ≤ 4611686018427387904) (hv:Vars w) :
  Calls Tryz.prog 158 #[.string s] w fun e w'=>WholeA w (whole rdA (li s)) e w':=by
 have c:=parseA_any s w hs hv
 clear hv hs
 cases hq:whole rdA (li s) with
 | error er =>
  rw [hq] at c
  unfold WholeA at c ⊢
  simp only at c ⊢
  clear hq
  go_enter Tryz.func158,Tryz.ntmps158
  go_wp2_with fail
  refine c.mono ?_
  rintro e w1 ⟨k1,rfl⟩
  go_wp2_with fail
  go_ret2
  exact ⟨k1,rfl⟩
 | ok xs =>
  rw [hq] at c
  unfold WholeA at c ⊢
  simp only at c ⊢
  clear hq
  go_enter Tryz.func158,Tryz.ntmps158
  go_wp2_with fail
  refine c.mono ?_
  rintro e w1 ⟨k1,v,rfl,k2⟩
  go_wp2_with fail
  go_ret2
  exact ⟨k1,_,rfl,k2⟩
theorem ParseProvides_any (s:ByteArray) (w:World) (hs:s.size ≤ 4611686018427387904) (hv:Vars w) :
  Calls Tryz.prog 159 #[.string s] w fun e w'=>WholeP w (whole rdP (li s)) e w':=by
 have c:=parseP_any s w hs hv
 clear hv hs
 cases hq:whole rdP (li s) with
 | error er =>
  rw [hq] at c
  unfold WholeP at c ⊢
  simp only at c ⊢
  clear hq
  go_enter Tryz.func159,Tryz.ntmps159
  go_wp2_with fail
  refine c.mono ?_
  rintro e w1 ⟨k1,rfl⟩
  go_wp2_with fail
  go_ret2
  exact ⟨k1,rfl⟩
 | ok xs =>
  rw [hq] at c
  unfold WholeP at c ⊢
  simp only at c ⊢
  clear hq
  go_enter Tryz.func159,Tryz.ntmps159
  go_wp2_with fail
  refine c.mono ?_
  rintro e w1 ⟨k1,v,rfl,k2⟩
  go_wp2_with fail
  go_ret2
  exact ⟨k1,_,rfl,k2⟩
end Rl
end Go.Proofs.YthmpepnikmdjpaaGreatDoor
namespace Go.Proofs.YthmpepnikmdjpaaGreatDoor
open Go.RowKit
set_option linter.unusedSimpArgs false
set_option linter.unusedVariables false
namespace Rl
open Ver (Bs li li_len li_drop S S_self S_of S_size S_li below_drewN empty_is empty_no MaxLen Signs)
structure St3 (w u:World) (p:Nat) (l:Bs):Prop where
 np:w.heap.size < p
 rd:Rd u p l
 res:Blk.Is u w.heap.size 78 #[.string ⟨#[]⟩,.int .i64 0,.string ⟨#[]⟩]
 bel:Below w.heap.size w u
theorem St3.below {w u u':World} {p:Nat} {l:Bs} (h:St3 w u p l) (hb:Below u.heap.size u u'):St3 w u' p l :=
 ⟨h.np,h.rd.below hb,is_on h.res hb,h.bel.trans (hb.mono h.bel.size)⟩
theorem St3.call {w u u':World} {p:Nat} {l l':Bs} (h:St3 w u p l) (hr:Rd u' p l') (hc:Blk.Chg (fun k=>k = p) u u'):St3 w u' p l':=by
 have h1:=h.np
 exact ⟨h1,hr,hc.is h.res (by omega),chg_new h.bel (Nat.le_of_lt h1) hc⟩
end Rl
end Go.Proofs.YthmpepnikmdjpaaGreatDoor
namespace Go.Proofs.YthmpepnikmdjpaaGreatDoor
open Go.RowKit
set_option linter.unusedSimpArgs false
set_option linter.unusedVariables false
namespace Rl
open Ver (Bs li li_len li_drop S S_self S_of S_size S_li below_drewN empty_is empty_no MaxLen Signs)
def Yx (w:World) (p:Nat) (l:Bs) (bad:Bool):Prop:=Blk.Is w p 236 #[.string (S l),.bool bad] ∧ l.length ≤ 4611686018427387904
theorem Yx.chg {w w':World} {p:Nat} {l:Bs} {bad:Bool} {Q:Nat → Prop} (h:Yx w p l bad) (hc:Blk.Chg Q w w') (hn:¬ Q p):Yx w' p l bad:=⟨hc.is h.1 hn,h.2⟩
theorem Yx.below {w w':World} {p:Nat} {l:Bs} {bad:Bool} (h:Yx w p l bad) (hb:Below w.heap.size w w'):Yx w' p l bad:=h.chg (Q:=fun _=>False) (Blk.Chg.ofBelow' hb) (by simp)
theorem Yx.set {w:World} {p:Nat} {l:Bs} {bad:Bool} (h:Yx w p l bad) (m:Bs) (hm:m.length ≤ 4611686018427387904):Yx (w.setCell ⟨p,0,none⟩ (.string (S m))) p m bad:=⟨by have:=h.1.set 0 (.string (S m)); simpa using this,hm⟩
theorem Yx.cells {w:World} {p:Nat} {l:Bs} {bad:Bool} (h:Yx w p l bad):w.cell? ⟨p,0,none⟩ = some (.string (S l)) ∧ w.cell? ⟨p,1,none⟩ = some (.bool bad) ∧ w.frozen? ⟨p,0,none⟩ = false ∧ w.frozen? ⟨p,1,none⟩ = false:=⟨h.1.at rfl,h.1.at rfl,h.1.free _,h.1.free _⟩
end Rl
end Go.Proofs.YthmpepnikmdjpaaGreatDoor
namespace Go.Proofs.YthmpepnikmdjpaaGreatDoor
open Go.RowKit
set_option linter.unusedSimpArgs false
set_option linter.unusedVariables false
namespace Rl
open Ver (Bs li li_len li_drop S S_self S_of S_size S_li below_drewN empty_is empty_no MaxLen Signs)
structure Sy (w u:World) (p b:Nat) (l:Bs) (bad:Bool) (x y z:Value):Prop where
 np:p < w.heap.size
 nb:w.heap.size < b
 rd:Yx u p l bad
 at':Blk.Is u b 78 #[x,y,z]
 res:Blk.Is u w.heap.size 78 #[.string ⟨#[]⟩,.int .i64 0,.string ⟨#[]⟩]
 chg:Blk.Chg (fun k=>k = p) w u
theorem Sy.cells {w u:World} {p b:Nat} {l:Bs} {bad:Bool} {x y z:Value} (h:Sy w u p b l bad x y z):u.cell? ⟨b,0,none⟩ = some x ∧ u.cell? ⟨b,1,none⟩ = some y ∧ u.cell? ⟨b,2,none⟩ = some z ∧ u.frozen? ⟨b,0,none⟩ = false ∧ u.frozen? ⟨b,1,none⟩ = false ∧ u.frozen? ⟨b,2,none⟩ = false :=
 ⟨h.at'.at rfl,h.at'.at rfl,h.at'.at rfl,h.at'.free _,h.at'.free _,h.at'.free _⟩
theorem Sy.call {w u u':World} {p b:Nat} {l l':Bs} {bad bad':Bool} {x y z:Value} (h:Sy w u p b l bad x y z) (hr:Yx u' p l' bad') (hc:Blk.Chg (fun k=>k = p) u u'):Sy w u' p b l' bad' x y z:=by
 have h1:=h.np
 have h2:=h.nb
 exact ⟨h1,h2,hr,hc.is h.at' (by omega),hc.is h.res (by omega),h.chg.trans hc⟩
theorem Sy.below {w u u':World} {p b:Nat} {l:Bs} {bad:Bool} {x y z:Value} (h:Sy w u p b l bad x y z) (hb:Below u.heap.size u u'):Sy w u' p b l bad x y z :=
 ⟨h.np,h.nb,h.rd.below hb,is_on h.at' hb,is_on h.res hb,h.chg.trans (Blk.Chg.ofBelow' hb)⟩
theorem Sy.write {w u:World} {p b:Nat} {l:Bs} {bad:Bool} {x y z:Value} (h:Sy w u p b l bad x y z) (i:Nat) (v:Value) {x' y' z':Value} (he:#[x',y',z'] = (#[x,y,z]:Array Value).setIfInBounds i v):Sy w (u.setCell ⟨b,i,none⟩ v) p b l bad x' y' z':=by
 have h1:=h.np
 have h2:=h.nb
 have hc:Blk.Chg (fun k=>k = b) u (u.setCell ⟨b,i,none⟩ v):=(Blk.Chg.refl (fun k=>k = b) u).setAt rfl
 refine ⟨h1,h2,h.rd.chg hc (by omega),by rw [he]; exact h.at'.set i v,hc.is h.res (by omega),?_⟩
 exact h.chg.setCell' (p:=⟨b,i,none⟩) (Nat.le_of_lt h2) v
end Rl
end Go.Proofs.YthmpepnikmdjpaaGreatDoor
namespace Go.Proofs.YthmpepnikmdjpaaGreatDoor
open Go.RowKit
set_option linter.unusedSimpArgs false
set_option linter.unusedVariables false
namespace Rl
open Ver (Bs li li_len li_drop S S_self S_of S_size S_li below_drewN empty_is empty_no MaxLen Signs)
def prey {α:Type} (ds:List α):Except Int (List α) → Except Int (List α)
 | .error e=>.error e
 | .ok xs=>.ok (ds ++ xs)
section
variable {α:Type} {rd:Bs → Except Int (α × Bs)} {most:Nat} {l m:Bs} {ds:List α}
def Yit (rd:Bs → Except Int (α × Bs)) (most:Nat) (l m:Bs) (ds:List α):Prop:=yitems rd most l = prey ds (yitems rd (most - ds.length) m)
theorem Yit.last {x:α} (h:Yit rd most l m ds) (hd:ds.length < most) (he:rd m = .ok (x,[])):yitems rd most l = .ok (ds ++ [x]):=by
 obtain ⟨k,hk⟩:∃ k,most - ds.length = k + 1:=⟨most - ds.length - 1,by omega⟩
 rw [h,hk]
 unfold yitems
 rw [he]
 simp only [if_true]
 rfl
theorem Yit.no {x:α} {r:Bs} (h:Yit rd most l m ds) (hd:ds.length < most) (he:rd m = .ok (x,r)) (hr:r ≠ []) (ht:tk 44 r = none):yitems rd most l = .error 3:=by
 obtain ⟨k,hk⟩:∃ k,most - ds.length = k + 1:=⟨most - ds.length - 1,by omega⟩
 rw [h,hk]
 unfold yitems
 rw [he]
 simp only [hr,if_false]
 rw [ht]; rfl
theorem Yit.next {x:α} {r r2:Bs} (h:Yit rd most l m ds) (hd:ds.length < most) (he:rd m = .ok (x,r)) (hr:r ≠ []) (ht:tk 44 r = some r2):Yit rd most l r2 (ds ++ [x]):=by
 unfold Yit at h ⊢
 obtain ⟨k,hk⟩:∃ k,most - ds.length = k + 1:=⟨most - ds.length - 1,by omega⟩
 have hk2:most - (ds ++ [x]).length = k:=by rw [List.length_append]; simp; omega
 rw [h,hk,hk2]
 conv=>lhs; unfold yitems
 rw [he]
 simp only [hr,if_false]
 rw [ht]
 simp only
 cases yitems rd k r2 with
 | error e=>rfl
 | ok xs =>
  show Except.ok (ds ++ x :: xs) = Except.ok ((ds ++ [x]) ++ xs)
  simp
end
end Rl
end Go.Proofs.YthmpepnikmdjpaaGreatDoor
namespace Go.Proofs.YthmpepnikmdjpaaGreatDoor
open Go.RowKit
set_option linter.unusedSimpArgs false
set_option linter.unusedVariables false
namespace Rl
open Ver (Bs li li_len li_drop S S_self S_of S_size S_li below_drewN empty_is empty_no MaxLen Signs)
end Rl
end Go.Proofs.YthmpepnikmdjpaaGreatDoor
namespace Go.Proofs.YthmpepnikmdjpaaGreatDoor
open Go.RowKit
set_option linter.unusedSimpArgs false
set_option linter.unusedVariables false
namespace Rl
open Ver (Bs li li_len li_drop S S_self S_of S_size S_li below_drewN empty_is empty_no MaxLen Signs)
end Rl
end Go.Proofs.YthmpepnikmdjpaaGreatDoor

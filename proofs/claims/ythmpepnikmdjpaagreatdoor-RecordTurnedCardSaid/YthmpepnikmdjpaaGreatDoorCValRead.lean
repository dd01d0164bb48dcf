/-
Read: the value of a field by its name.
-/
import Derived.Test.YthmpepnikmdjpaaGreatDoorCValSort
import Derived.Test.YthmpepnikmdjpaaGreatDoorCTextAwake
namespace Go.Proofs.YthmpepnikmdjpaaGreatDoor
open Go.RowKit
set_option linter.unusedSimpArgs false
set_option linter.unusedVariables false
namespace Va
open Ver (Bs li li_len S S_self S_size S_li)
open Rl (At Pv Ats Pvs Clss Cls Vars whole rdC rdA rdP nmB isV erO xsO UC UA UP)
def asV {α:Type} (f:α → Vl):Except Int α → Except Int Vl
 | .ok x=>.ok (f x)
 | .error e=>.error e
def rd (k:Nat) (s:ByteArray):Except Int Vl :=
 if k = 0 then (if nmB (li s) then .ok (.text s) else .error 3)
 else if k = 1 then (if isV (li s) then .ok (.text s) else .error 3)
 else if k = 2 then asV .clauses (whole rdC (li s))
 else if k = 3 then asV .atoms (whole rdA (li s))
 else if k = 4 then asV .provs (whole rdP (li s))
 else if k = 5 then (if s = yesT then .ok (.yes true) else if s = noT then .ok (.yes false) else .error 3)
 else if k = 6 then (if Txt.numOK s then .ok (.count (Txt.numOf s)) else .error 3)
 else .ok (.text s)
def Ans (o:Except Int Vl) (B:Nat) (w:World) (v:Value) (er:Int):Prop:=match o with
 | .ok x=>er = 0 ∧ VAt B w v x
 | .error e=>er = e ∧ v = .nilIface
theorem ans_told (o:Except Int Vl):Told (Ans o):=by
 constructor
 ·intro B u u' v er h hc
  cases o with
  | ok x=>exact ⟨h.1,h.2.on hc⟩
  | error e=>exact h
 ·intro B B' u v er hB h
  cases o with
  | ok x=>exact ⟨h.1,h.2.mono hB⟩
  | error e=>exact h
theorem Ans.is {o:Except Int Vl} {B:Nat} {w:World} {v:Value} {er:Int} (h:Ans o B w v er):IsI v:=by
 cases o with
 | ok x=>exact h.2.ok.is
 | error e=>exact .inl h.2
def Rdr (o:Except Int Vl) (w:World) (e:Ending) (w':World):Prop:=∃ v er,e = .returned (.tuple #[.agg #[v],.int .i64 er]) ∧ IsI v ∧ Below w.heap.size w w' ∧ Ans o w.heap.size w' v er
theorem unless_ok (v:Value) (hv:IsI v) (w:World):Calls Tryz.prog 156 #[.int .i64 0,.agg #[v]] w fun e w'=>e = .returned (.tuple #[.agg #[v],.int .i64 0]) ∧ Below w.heap.size w w':=by
 have hB1:Below w.heap.size w (w.alloc (.cells #[v] 97)):=(Below.refl _ _).alloc (Nat.le_refl _) _
 have hs1:(w.alloc (.cells #[v] 97)).heap.size = w.heap.size + 1:=by simp
 have i1:=(Blk.Is.new w 97 #[v]).alloc (.cells #[.nilIface] 97)
 have i2:=Blk.Is.new (w.alloc (.cells #[v] 97)) 97 #[.nilIface]
 rw [hs1] at i2
 have hB2:Below w.heap.size w ((w.alloc (.cells #[v] 97)).alloc (.cells #[.nilIface] 97)):=hB1.alloc hB1.size _
 obtain ⟨W,hW⟩:∃ W,(w.alloc (.cells #[v] 97)).alloc (.cells #[.nilIface] 97) = W:=⟨_,rfl⟩
 rw [hW] at i1 i2 hB2
 have c1:=i1.at (i:=0) (v:=v) rfl
 have c2:=i2.at (i:=0) (v:=.nilIface) rfl
 have f2:=i2.free 0
 have h9:=(i2.set 0 v).at (i:=0) (v:=v) rfl
 have k:Below w.heap.size w (W.setCell ⟨w.heap.size + 1,0,none⟩ v):=hB2.setCell (Nat.le_succ _) _
 clear hB1 hs1 i1 i2 hB2
 rcases hv with rfl | ⟨t,x,rfl⟩
 all_goals
  go_enter Tryz.func156,Tryz.ntmps156
  go_wp2_with fail
 ·refine bodyPost_ret (v:=.tuple #[.agg #[.nilIface],.int .i64 0]) ?_ rfl ⟨rfl,k⟩
  simp [results,Tryz.results156,go_sem,h9]
 ·refine bodyPost_ret (v:=.tuple #[.agg #[.iface t x],.int .i64 0]) ?_ rfl ⟨rfl,k⟩
  simp [results,Tryz.results156,go_sem,h9]
theorem unless_no (er:Int) (he:er ≠ 0) (v:Value) (w:World):Calls Tryz.prog 156 #[.int .i64 er,.agg #[v]] w fun e w'=>e = .returned (.tuple #[.agg #[.nilIface],.int .i64 er]) ∧ Below w.heap.size w w':=by
 have hB1:Below w.heap.size w (w.alloc (.cells #[v] 97)):=(Below.refl _ _).alloc (Nat.le_refl _) _
 have hs1:(w.alloc (.cells #[v] 97)).heap.size = w.heap.size + 1:=by simp
 have i2:=Blk.Is.new (w.alloc (.cells #[v] 97)) 97 #[.nilIface]
 rw [hs1] at i2
 have hB2:Below w.heap.size w ((w.alloc (.cells #[v] 97)).alloc (.cells #[.nilIface] 97)):=hB1.alloc hB1.size _
 obtain ⟨W,hW⟩:∃ W,(w.alloc (.cells #[v] 97)).alloc (.cells #[.nilIface] 97) = W:=⟨_,rfl⟩
 rw [hW] at i2 hB2
 have c2:=i2.at (i:=0) (v:=.nilIface) rfl
 have f2:=i2.free 0
 have h9:=(i2.set 0 .nilIface).at (i:=0) (v:=.nilIface) rfl
 have k:Below w.heap.size w (W.setCell ⟨w.heap.size + 1,0,none⟩ .nilIface):=hB2.setCell (Nat.le_succ _) _
 have hne:(er != 0) = true:=by simp [he]
 clear hB1 hs1 i2 hB2 he
 go_enter Tryz.func156,Tryz.ntmps156
 go_wp2_with fail
 refine bodyPost_ret (v:=.tuple #[.agg #[.nilIface],.int .i64 er]) ?_ rfl ⟨rfl,k⟩
 simp [results,Tryz.results156,go_sem,h9]
set_option maxRecDepth 100000 in
set_option maxHeartbeats 1000000 in
theorem readName_any (s:ByteArray) (hs:s.size ≤ 4611686018427387904) (w:World):Calls Tryz.prog 105 #[.string s] w fun e w'=>Rdr (rd 0 s) w e w':=by
 have hb0:=Blk.Is.new w 97 #[.nilIface]
 have hB0:Below w.heap.size w (w.alloc (.cells #[.nilIface] 97)):=(Below.refl _ _).alloc (Nat.le_refl _) _
 have c:=Rl.name_any (li s) (w.alloc (.cells #[.nilIface] 97)) (by rw [li_len]; exact hs)
 rw [S_self] at c
 have ct:=fun w=>ofText_any (.string s) w
 have hr:rd 0 s = if nmB (li s) then .ok (.text s) else .error 3:=rfl
 rw [hr]
 clear hr
 cases hq:nmB (li s) with
 | true =>
  rw [hq] at c
  clear hq
  go_enter Tryz.func105,Tryz.ntmps105
  go_wp2_with fail
  refine c.mono ?_
  rintro e w1 ⟨rfl,k1⟩
  have i1:Blk.Is w1 w.heap.size 97 #[.nilIface]:=(k1.block _ hb0.lt).trans hb0
  have b1:=hB0.trans (k1.mono hB0.size)
  clear c k1 hb0 hB0
  go_wp2_with fail
  refine (ct _).mono ?_
  rintro e w2 ⟨rfl,k2⟩
  have i2:Blk.Is w2 w.heap.size 97 #[.nilIface]:=(k2.block _ i1.lt).trans i1
  have b2:=(b1.trans (k2.mono b1.size)).setCell (p:=⟨w.heap.size,0,none⟩) (Nat.le_refl _) (.iface 9 (.string s))
  have c1:=i2.at (i:=0) rfl
  have c2:=i2.free 0
  have h9:=(i2.set 0 (.iface 9 (.string s))).at (i:=0) (v:=.iface 9 (.string s)) rfl
  clear ct k2 b1 i1 i2
  go_wp2_with fail
  refine bodyPost_ret (v:=.tuple #[.agg #[.iface 9 (.string s)],.int .i64 0]) ?_ rfl ?_
  ·simp [results,Tryz.results105,go_sem,h9]
  ·exact ⟨_,_,rfl,.inr ⟨_,_,rfl⟩,b2,rfl,rfl⟩
 | false =>
  rw [hq] at c
  clear hq
  go_enter Tryz.func105,Tryz.ntmps105
  go_wp2_with fail
  refine c.mono ?_
  rintro e w1 ⟨rfl,k1⟩
  have i1:Blk.Is w1 w.heap.size 97 #[.nilIface]:=(k1.block _ hb0.lt).trans hb0
  have b1:=(hB0.trans (k1.mono hB0.size)).setCell (p:=⟨w.heap.size,0,none⟩) (Nat.le_refl _) .nilIface
  have c1:=i1.at (i:=0) rfl
  have c2:=i1.free 0
  have h9:=(i1.set 0 .nilIface).at (i:=0) (v:=.nilIface) rfl
  clear c k1 hb0 hB0 ct i1
  go_wp2_with fail
  refine bodyPost_ret (v:=.tuple #[.agg #[.nilIface],.int .i64 3]) ?_ rfl ?_
  ·simp [results,Tryz.results105,go_sem,h9]
  ·exact ⟨_,_,rfl,.inl rfl,b1,rfl,rfl⟩
theorem readYes_any (s:ByteArray) (w:World):Calls Tryz.prog 110 #[.string s] w fun e w'=>Rdr (rd 5 s) w e w':=by
 have hr:rd 5 s = if s = yesT then .ok (.yes true) else if s = noT then .ok (.yes false) else .error 3:=rfl
 rw [hr]
 by_cases h1:s = yesT
 ·rw [if_pos h1,h1]
  exact (readYes_yes w).mono fun e w' ⟨a,b⟩=>⟨_,_,a,.inr ⟨_,_,rfl⟩,b,rfl,rfl⟩
 ·rw [if_neg h1]
  by_cases h2:s = noT
  ·rw [if_pos h2,h2]
   exact (readYes_no w).mono fun e w' ⟨a,b⟩=>⟨_,_,a,.inr ⟨_,_,rfl⟩,b,rfl,rfl⟩
  ·rw [if_neg h2]
   exact (readYes_else s h1 h2 w).mono fun e w' ⟨a,b⟩=>⟨_,_,a,.inl rfl,b,rfl,rfl⟩
set_option maxRecDepth 100000 in
set_option maxHeartbeats 1000000 in
theorem readCount_any (s:ByteArray) (hs:s.size ≤ 4611686018427387904) (w:World):Calls Tryz.prog 111 #[.string s] w fun e w'=>Rdr (rd 6 s) w e w':=by
 have hb0:=Blk.Is.new w 97 #[.nilIface]
 have hB0:Below w.heap.size w (w.alloc (.cells #[.nilIface] 97)):=(Below.refl _ _).alloc (Nat.le_refl _) _
 have c:=Txt.number_any s (w.alloc (.cells #[.nilIface] 97)) (by omega)
 have ct:=fun w=>ofCount_any (.int .i64 (Txt.numOf s)) w
 have hr:rd 6 s = if Txt.numOK s then .ok (.count (Txt.numOf s)) else .error 3:=rfl
 rw [hr]
 clear hr
 by_cases hq:Txt.numOK s
 ·rw [if_pos hq]
  rw [decide_eq_true hq] at c
  clear hq
  generalize Txt.numOf s = X at *
  go_enter Tryz.func111,Tryz.ntmps111
  go_wp2_with fail
  refine c.mono ?_
  rintro e w1 ⟨rfl,k1⟩
  have i1:Blk.Is w1 w.heap.size 97 #[.nilIface]:=(k1.block _ hb0.lt).trans hb0
  have b1:=hB0.trans (k1.mono hB0.size)
  clear c k1 hb0 hB0
  go_wp2_with fail
  refine (ct _).mono ?_
  rintro e w2 ⟨rfl,k2⟩
  have i2:Blk.Is w2 w.heap.size 97 #[.nilIface]:=(k2.block _ i1.lt).trans i1
  have b2:=(b1.trans (k2.mono b1.size)).setCell (p:=⟨w.heap.size,0,none⟩) (Nat.le_refl _) (.iface 3 (.int .i64 X))
  have c1:=i2.at (i:=0) rfl
  have c2:=i2.free 0
  have h9:=(i2.set 0 (.iface 3 (.int .i64 X))).at (i:=0) (v:=.iface 3 (.int .i64 X)) rfl
  clear ct k2 b1 i1 i2
  go_wp2_with fail
  refine bodyPost_ret (v:=.tuple #[.agg #[.iface 3 (.int .i64 X)],.int .i64 0]) ?_ rfl ?_
  ·simp [results,Tryz.results111,go_sem,h9]
  ·exact ⟨_,_,rfl,.inr ⟨_,_,rfl⟩,b2,rfl,rfl⟩
 ·rw [if_neg hq]
  rw [decide_eq_false hq] at c
  clear hq
  generalize Txt.numOf s = X at *
  go_enter Tryz.func111,Tryz.ntmps111
  go_wp2_with fail
  refine c.mono ?_
  rintro e w1 ⟨rfl,k1⟩
  have i1:Blk.Is w1 w.heap.size 97 #[.nilIface]:=(k1.block _ hb0.lt).trans hb0
  have b1:=(hB0.trans (k1.mono hB0.size)).setCell (p:=⟨w.heap.size,0,none⟩) (Nat.le_refl _) .nilIface
  have c1:=i1.at (i:=0) rfl
  have c2:=i1.free 0
  have h9:=(i1.set 0 .nilIface).at (i:=0) (v:=.nilIface) rfl
  clear c k1 hb0 hB0 ct i1
  go_wp2_with fail
  refine bodyPost_ret (v:=.tuple #[.agg #[.nilIface],.int .i64 3]) ?_ rfl ?_
  ·simp [results,Tryz.results111,go_sem,h9]
  ·exact ⟨_,_,rfl,.inl rfl,b1,rfl,rfl⟩
set_option maxRecDepth 100000 in
set_option maxHeartbeats 2000000 in
theorem readVersion_any (s:ByteArray) (hs:s.size ≤ 4611686018427387904) (w:World) (hm:Ver.MaxLen w):Calls Tryz.prog 106 #[.string s] w fun e w'=>Rdr (rd 1 s) w e w':=by
 have hb0:=Blk.Is.new w 97 #[.nilIface]
 have hB0:Below w.heap.size w (w.alloc (.cells #[.nilIface] 97)):=(Below.refl _ _).alloc (Nat.le_refl _) _
 have c:=Ver.parse_any s (w.alloc (.cells #[.nilIface] 97)) hs (hm.on hB0)
 have ct:=fun w=>ofText_any (.string s) w
 have hr:rd 1 s = if isV (li s) then .ok (.text s) else .error 3:=rfl
 rw [hr]
 unfold isV
 clear hr hm
 cases hq:Ver.parse (li s) with
 | some q =>
  rw [hq] at c
  unfold Ver.toldV at c
  have cu:=fun w=>unless_ok (.iface 9 (.string s)) (.inr ⟨_,_,rfl⟩) w
  clear hq
  obtain ⟨q1,q2,q3⟩:=q
  generalize S q1 = x1 at *
  generalize S q2 = x2 at *
  generalize S q3 = x3 at *
  go_enter Tryz.func106,Tryz.ntmps106
  go_wp2_with fail
  refine c.mono ?_
  rintro e w1 ⟨rfl,k1⟩
  have i1:Blk.Is w1 w.heap.size 97 #[.nilIface]:=(k1.block _ hb0.lt).trans hb0
  have b1:=hB0.trans (k1.mono hB0.size)
  clear c k1 hb0 hB0
  go_wp2_with fail
  refine (ct _).mono ?_
  rintro e w2 ⟨rfl,k2⟩
  have i2:Blk.Is w2 w.heap.size 97 #[.nilIface]:=(k2.block _ i1.lt).trans i1
  have b2:=b1.trans (k2.mono b1.size)
  clear ct k2 b1 i1
  go_wp2_with fail
  refine (cu _).mono ?_
  rintro e w3 ⟨rfl,k3⟩
  have i3:Blk.Is w3 w.heap.size 97 #[.nilIface]:=(k3.block _ i2.lt).trans i2
  have b3:=(b2.trans (k3.mono b2.size)).setCell (p:=⟨w.heap.size,0,none⟩) (Nat.le_refl _) (.iface 9 (.string s))
  have c1:=i3.at (i:=0) rfl
  have c2:=i3.free 0
  have h9:=(i3.set 0 (.iface 9 (.string s))).at (i:=0) (v:=.iface 9 (.string s)) rfl
  clear cu k3 b2 i2 i3
  go_wp2_with fail
  refine bodyPost_ret (v:=.tuple #[.agg #[.iface 9 (.string s)],.int .i64 0]) ?_ rfl ?_
  ·simp [results,Tryz.results106,go_sem,h9]
  ·exact ⟨_,_,rfl,.inr ⟨_,_,rfl⟩,b3,rfl,rfl⟩
 | none =>
  rw [hq] at c
  unfold Ver.toldV at c
  have cu:=fun w=>unless_no 3 (by decide) (.iface 9 (.string s)) w
  clear hq
  go_enter Tryz.func106,Tryz.ntmps106
  go_wp2_with fail
  refine c.mono ?_
  rintro e w1 ⟨rfl,k1⟩
  have i1:Blk.Is w1 w.heap.size 97 #[.nilIface]:=(k1.block _ hb0.lt).trans hb0
  have b1:=hB0.trans (k1.mono hB0.size)
  clear c k1 hb0 hB0
  go_wp2_with fail
  refine (ct _).mono ?_
  rintro e w2 ⟨rfl,k2⟩
  have i2:Blk.Is w2 w.heap.size 97 #[.nilIface]:=(k2.block _ i1.lt).trans i1
  have b2:=b1.trans (k2.mono b1.size)
  clear ct k2 b1 i1
  go_wp2_with fail
  refine (cu _).mono ?_
  rintro e w3 ⟨rfl,k3⟩
  have i3:Blk.Is w3 w.heap.size 97 #[.nilIface]:=(k3.block _ i2.lt).trans i2
  have b3:=(b2.trans (k3.mono b2.size)).setCell (p:=⟨w.heap.size,0,none⟩) (Nat.le_refl _) .nilIface
  have c1:=i3.at (i:=0) rfl
  have c2:=i3.free 0
  have h9:=(i3.set 0 .nilIface).at (i:=0) (v:=.nilIface) rfl
  clear cu k3 b2 i2 i3
  go_wp2_with fail
  refine bodyPost_ret (v:=.tuple #[.agg #[.nilIface],.int .i64 3]) ?_ rfl ?_
  ·simp [results,Tryz.results106,go_sem,h9]
  ·exact ⟨_,_,rfl,.inl rfl,b3,rfl,rfl⟩
theorem er_ne {α:Type} {rdx:Bs → Except Int (α × Bs)} (h:∀ l e,rdx l = .error e → e = 3 ∨ e = 12) {s:Bs} {e:Int} (he:whole rdx s = .error e):e ≠ 0:=by
 unfold Rl.whole at he
 split at he
 ·cases he
 ·cases h1:Rl.items rdx 44 12 (Rl.skip s) with
  | error e1 =>
   rw [h1] at he
   cases he
   rcases Rl.items_er h 44 _ _ _ h1 with rfl | rfl <;> decide
  | ok q =>
   obtain ⟨xs,r⟩:=q
   rw [h1] at he
   simp only at he
   split at he
   ·cases he
   ·cases he; decide
theorem rdP_er (l:Bs) (e:Int) (h:rdP l = .error e):e = 3 ∨ e = 12:=by
 unfold Rl.rdP at h
 cases hq:rdA l with
 | error a=>rw [hq] at h; cases h; exact .inl rfl
 | ok q =>
  rw [hq] at h
  obtain ⟨a,r⟩:=q
  simp only [Rl.prv] at h
  split at h
  ·cases h
  ·cases h; exact .inl rfl
set_option maxRecDepth 100000 in
set_option maxHeartbeats 4000000 in
theorem readClauses_any (s:ByteArray) (hs:s.size ≤ 4611686018427387904) (w:World) (hv:Vars w):Calls Tryz.prog 107 #[.string s] w fun e w'=>Rdr (rd 2 s) w e w':=by
 have hb0:=Blk.Is.new w 97 #[.nilIface]
 have hB0:Below w.heap.size w (w.alloc (.cells #[.nilIface] 97)):=(Below.refl _ _).alloc (Nat.le_refl _) _
 have c:=Rl.uParse s (w.alloc (.cells #[.nilIface] 97)) hs (hv.on hB0)
 have hr:rd 2 s = asV .clauses (whole rdC (li s)):=rfl
 rw [hr]
 have hlen:(xsO (whole rdC (li s))).length ≤ 60000 ∧ ∀ c ∈ xsO (whole rdC (li s)),c.length ≤ 60000:=by
  cases hq:whole rdC (li s) with
  | error e=>exact ⟨by simp [xsO],fun c hc=>by cases hc⟩
  | ok xs =>
   have h1:=Rl.whole_len hq
   have hl2:=Rl.whole_clen hq
   exact ⟨show xs.length ≤ 60000 by omega,fun c hc=>by have:=hl2 c hc; omega⟩
 have her:∀ er,whole rdC (li s) = .error er → er ≠ 0:=fun er h=>er_ne (fun l e h=>Rl.rdC_err h) h
 clear hr hv hs
 unfold UC at c
 generalize whole rdC (li s) = O at *
 have HL:=Lib.hid hlen
 have HE:=Lib.hid her
 clear hlen her
 go_enter Tryz.func107,Tryz.ntmps107
 go_wp2_with fail
 refine c.mono ?_
 rintro e w1 ⟨k1,v,rfl,h1⟩
 have i1:Blk.Is w1 w.heap.size 97 #[.nilIface]:=(k1.block _ hb0.lt).trans hb0
 have b1:=hB0.trans (k1.mono hB0.size)
 have s1:w.heap.size + 1 ≤ w1.heap.size:=by have:=k1.size; simp at this; omega
 have ct:=ofClauses_any v _ w1 h1 HL.out.1 HL.out.2
 clear c k1 hb0 hB0
 obtain ⟨sa,sc,rfl⟩:=h1.shape
 clear h1
 go_wp2_with fail
 refine ct.mono ?_
 rintro e w2 ⟨iv,rfl,hI,hV,k2⟩
 have i2:Blk.Is w2 w.heap.size 97 #[.nilIface]:=(k2.block _ i1.lt).trans i1
 have b2:=b1.trans (k2.mono b1.size)
 clear ct i1
 cases O with
 | ok xs =>
  have cu:=fun w=>unless_ok iv hI w
  have HV:=Lib.hid (show VAt w1.heap.size w2 iv (.clauses xs) from hV)
  have e0:erO (.ok xs:Except Int (List (List At))) = 0:=rfl
  rw [e0]
  clear hV e0 k2
  go_wp2_with fail
  refine (cu _).mono ?_
  rintro e w3 ⟨rfl,k3⟩
  have i3:Blk.Is w3 w.heap.size 97 #[.nilIface]:=(k3.block _ i2.lt).trans i2
  have b3:=(b2.trans (k3.mono b2.size)).setCell (p:=⟨w.heap.size,0,none⟩) (Nat.le_refl _) iv
  have hV3:=(HV.out.below k3).on ((Blk.Chg.refl _ w3).setAt (b:=w.heap.size) (o:=0) (u:=iv) (Nat.lt_of_lt_of_le (Nat.lt_succ_self _) s1))
  have HV3:=Lib.hid (hV3.mono (show w.heap.size ≤ w1.heap.size by omega))
  have c1:=i3.at (i:=0) rfl
  have c2:=i3.free 0
  have h9:=(i3.set 0 iv).at (i:=0) (v:=iv) rfl
  clear cu k3 b2 i2 i3 hV3 HV HL HE
  rcases hI with rfl | ⟨t,y,rfl⟩
  ·obtain ⟨_,hh,_⟩:=HV3.out
   cases hh
  ·go_wp2_with fail
   refine bodyPost_ret (v:=.tuple #[.agg #[.iface t y],.int .i64 0]) ?_ rfl ?_
   ·simp [results,Tryz.results107,go_sem,h9]
   ·exact ⟨_,_,rfl,.inr ⟨_,_,rfl⟩,b3,rfl,HV3.out⟩
 | error er =>
  have cu:=fun w=>unless_no er (HE.out er rfl) iv w
  have e0:erO (.error er:Except Int (List (List At))) = er:=rfl
  rw [e0]
  clear hV e0 k2
  go_wp2_with fail
  refine (cu _).mono ?_
  rintro e w3 ⟨rfl,k3⟩
  have i3:Blk.Is w3 w.heap.size 97 #[.nilIface]:=(k3.block _ i2.lt).trans i2
  have b3:=(b2.trans (k3.mono b2.size)).setCell (p:=⟨w.heap.size,0,none⟩) (Nat.le_refl _) .nilIface
  have c1:=i3.at (i:=0) rfl
  have c2:=i3.free 0
  have h9:=(i3.set 0 .nilIface).at (i:=0) (v:=.nilIface) rfl
  clear cu k3 b2 i2 i3 HL HE
  go_wp2_with fail
  refine bodyPost_ret (v:=.tuple #[.agg #[.nilIface],.int .i64 er]) ?_ rfl ?_
  ·simp [results,Tryz.results107,go_sem,h9]
  ·exact ⟨_,_,rfl,.inl rfl,b3,rfl,rfl⟩
set_option maxRecDepth 100000 in
set_option maxHeartbeats 4000000 in
theorem readAtoms_any (s:ByteArray) (hs:s.size ≤ 4611686018427387904) (w:World) (hv:Vars w):Calls Tryz.prog 108 #[.string s] w fun e w'=>Rdr (rd 3 s) w e w':=by
 have hb0:=Blk.Is.new w 97 #[.nilIface]
 have hB0:Below w.heap.size w (w.alloc (.cells #[.nilIface] 97)):=(Below.refl _ _).alloc (Nat.le_refl _) _
 have c:=Rl.uAtoms s (w.alloc (.cells #[.nilIface] 97)) hs (hv.on hB0)
 have hr:rd 3 s = asV .atoms (whole rdA (li s)):=rfl
 rw [hr]
 have hlen:(xsO (whole rdA (li s))).length ≤ 60000:=by
  cases hq:whole rdA (li s) with
  | error e=>simp [xsO]
  | ok xs =>
   have h1:=Rl.whole_len hq
   clear hq
   exact (show xs.length ≤ 60000 by omega)
 have her:∀ er,whole rdA (li s) = .error er → er ≠ 0:=fun er h=>er_ne (fun l e h=>Rl.rdA_er l e h) h
 clear hr hv hs
 unfold UA at c
 generalize whole rdA (li s) = O at *
 have HL:=Lib.hid hlen
 have HE:=Lib.hid her
 clear hlen her
 go_enter Tryz.func108,Tryz.ntmps108
 go_wp2_with fail
 refine c.mono ?_
 rintro e w1 ⟨k1,v,rfl,h1⟩
 have i1:Blk.Is w1 w.heap.size 97 #[.nilIface]:=(k1.block _ hb0.lt).trans hb0
 have b1:=hB0.trans (k1.mono hB0.size)
 have s1:w.heap.size + 1 ≤ w1.heap.size:=by have:=k1.size; simp at this; omega
 have ct:=ofAtoms_any v _ w1 h1 HL.out
 clear c k1 hb0 hB0
 obtain ⟨sa,sc,rfl⟩:=h1.shape
 clear h1
 go_wp2_with fail
 refine ct.mono ?_
 rintro e w2 ⟨iv,rfl,hI,hV,k2⟩
 have i2:Blk.Is w2 w.heap.size 97 #[.nilIface]:=(k2.block _ i1.lt).trans i1
 have b2:=b1.trans (k2.mono b1.size)
 clear ct i1
 cases O with
 | ok xs =>
  have cu:=fun w=>unless_ok iv hI w
  have HV:=Lib.hid (show VAt w1.heap.size w2 iv (.atoms xs) from hV)
  have e0:erO (.ok xs:Except Int (List (At))) = 0:=rfl
  rw [e0]
  clear hV e0 k2
  go_wp2_with fail
  refine (cu _).mono ?_
  rintro e w3 ⟨rfl,k3⟩
  have i3:Blk.Is w3 w.heap.size 97 #[.nilIface]:=(k3.block _ i2.lt).trans i2
  have b3:=(b2.trans (k3.mono b2.size)).setCell (p:=⟨w.heap.size,0,none⟩) (Nat.le_refl _) iv
  have hV3:=(HV.out.below k3).on ((Blk.Chg.refl _ w3).setAt (b:=w.heap.size) (o:=0) (u:=iv) (Nat.lt_of_lt_of_le (Nat.lt_succ_self _) s1))
  have HV3:=Lib.hid (hV3.mono (show w.heap.size ≤ w1.heap.size by omega))
  have c1:=i3.at (i:=0) rfl
  have c2:=i3.free 0
  have h9:=(i3.set 0 iv).at (i:=0) (v:=iv) rfl
  clear cu k3 b2 i2 i3 hV3 HV HL HE
  rcases hI with rfl | ⟨t,y,rfl⟩
  ·obtain ⟨_,hh,_⟩:=HV3.out
   cases hh
  ·go_wp2_with fail
   refine bodyPost_ret (v:=.tuple #[.agg #[.iface t y],.int .i64 0]) ?_ rfl ?_
   ·simp [results,Tryz.results108,go_sem,h9]
   ·exact ⟨_,_,rfl,.inr ⟨_,_,rfl⟩,b3,rfl,HV3.out⟩
 | error er =>
  have cu:=fun w=>unless_no er (HE.out er rfl) iv w
  have e0:erO (.error er:Except Int (List (At))) = er:=rfl
  rw [e0]
  clear hV e0 k2
  go_wp2_with fail
  refine (cu _).mono ?_
  rintro e w3 ⟨rfl,k3⟩
  have i3:Blk.Is w3 w.heap.size 97 #[.nilIface]:=(k3.block _ i2.lt).trans i2
  have b3:=(b2.trans (k3.mono b2.size)).setCell (p:=⟨w.heap.size,0,none⟩) (Nat.le_refl _) .nilIface
  have c1:=i3.at (i:=0) rfl
  have c2:=i3.free 0
  have h9:=(i3.set 0 .nilIface).at (i:=0) (v:=.nilIface) rfl
  clear cu k3 b2 i2 i3 HL HE
  go_wp2_with fail
  refine bodyPost_ret (v:=.tuple #[.agg #[.nilIface],.int .i64 er]) ?_ rfl ?_
  ·simp [results,Tryz.results108,go_sem,h9]
  ·exact ⟨_,_,rfl,.inl rfl,b3,rfl,rfl⟩
set_option maxRecDepth 100000 in
set_option maxHeartbeats 4000000 in
theorem readProvides_any (s:ByteArray) (hs:s.size ≤ 4611686018427387904) (w:World) (hv:Vars w):Calls Tryz.prog 109 #[.string s] w fun e w'=>Rdr (rd 4 s) w e w':=by
 have hb0:=Blk.Is.new w 97 #[.nilIface]
 have hB0:Below w.heap.size w (w.alloc (.cells #[.nilIface] 97)):=(Below.refl _ _).alloc (Nat.le_refl _) _
 have c:=Rl.uProvides s (w.alloc (.cells #[.nilIface] 97)) hs (hv.on hB0)
 have hr:rd 4 s = asV .provs (whole rdP (li s)):=rfl
 rw [hr]
 have hlen:(xsO (whole rdP (li s))).length ≤ 60000:=by
  cases hq:whole rdP (li s) with
  | error e=>simp [xsO]
  | ok xs =>
   have h1:=Rl.whole_len hq
   clear hq
   exact (show xs.length ≤ 60000 by omega)
 have her:∀ er,whole rdP (li s) = .error er → er ≠ 0:=fun er h=>er_ne (fun l e h=>rdP_er l e h) h
 clear hr hv hs
 unfold UP at c
 generalize whole rdP (li s) = O at *
 have HL:=Lib.hid hlen
 have HE:=Lib.hid her
 clear hlen her
 go_enter Tryz.func109,Tryz.ntmps109
 go_wp2_with fail
 refine c.mono ?_
 rintro e w1 ⟨k1,v,rfl,h1⟩
 have i1:Blk.Is w1 w.heap.size 97 #[.nilIface]:=(k1.block _ hb0.lt).trans hb0
 have b1:=hB0.trans (k1.mono hB0.size)
 have s1:w.heap.size + 1 ≤ w1.heap.size:=by have:=k1.size; simp at this; omega
 have ct:=ofProvides_any v _ w1 h1 HL.out
 clear c k1 hb0 hB0
 obtain ⟨sa,sc,rfl⟩:=h1.shape
 clear h1
 go_wp2_with fail
 refine ct.mono ?_
 rintro e w2 ⟨iv,rfl,hI,hV,k2⟩
 have i2:Blk.Is w2 w.heap.size 97 #[.nilIface]:=(k2.block _ i1.lt).trans i1
 have b2:=b1.trans (k2.mono b1.size)
 clear ct i1
 cases O with
 | ok xs =>
  have cu:=fun w=>unless_ok iv hI w
  have HV:=Lib.hid (show VAt w1.heap.size w2 iv (.provs xs) from hV)
  have e0:erO (.ok xs:Except Int (List (Pv))) = 0:=rfl
  rw [e0]
  clear hV e0 k2
  go_wp2_with fail
  refine (cu _).mono ?_
  rintro e w3 ⟨rfl,k3⟩
  have i3:Blk.Is w3 w.heap.size 97 #[.nilIface]:=(k3.block _ i2.lt).trans i2
  have b3:=(b2.trans (k3.mono b2.size)).setCell (p:=⟨w.heap.size,0,none⟩) (Nat.le_refl _) iv
  have hV3:=(HV.out.below k3).on ((Blk.Chg.refl _ w3).setAt (b:=w.heap.size) (o:=0) (u:=iv) (Nat.lt_of_lt_of_le (Nat.lt_succ_self _) s1))
  have HV3:=Lib.hid (hV3.mono (show w.heap.size ≤ w1.heap.size by omega))
  have c1:=i3.at (i:=0) rfl
  have c2:=i3.free 0
  have h9:=(i3.set 0 iv).at (i:=0) (v:=iv) rfl
  clear cu k3 b2 i2 i3 hV3 HV HL HE
  rcases hI with rfl | ⟨t,y,rfl⟩
  ·obtain ⟨_,hh,_⟩:=HV3.out
   cases hh
  ·go_wp2_with fail
   refine bodyPost_ret (v:=.tuple #[.agg #[.iface t y],.int .i64 0]) ?_ rfl ?_
   ·simp [results,Tryz.results109,go_sem,h9]
   ·exact ⟨_,_,rfl,.inr ⟨_,_,rfl⟩,b3,rfl,HV3.out⟩
 | error er =>
  have cu:=fun w=>unless_no er (HE.out er rfl) iv w
  have e0:erO (.error er:Except Int (List (Pv))) = er:=rfl
  rw [e0]
  clear hV e0 k2
  go_wp2_with fail
  refine (cu _).mono ?_
  rintro e w3 ⟨rfl,k3⟩
  have i3:Blk.Is w3 w.heap.size 97 #[.nilIface]:=(k3.block _ i2.lt).trans i2
  have b3:=(b2.trans (k3.mono b2.size)).setCell (p:=⟨w.heap.size,0,none⟩) (Nat.le_refl _) .nilIface
  have c1:=i3.at (i:=0) rfl
  have c2:=i3.free 0
  have h9:=(i3.set 0 .nilIface).at (i:=0) (v:=.nilIface) rfl
  clear cu k3 b2 i2 i3 HL HE
  go_wp2_with fail
  refine bodyPost_ret (v:=.tuple #[.agg #[.nilIface],.int .i64 er]) ?_ rfl ?_
  ·simp [results,Tryz.results109,go_sem,h9]
  ·exact ⟨_,_,rfl,.inl rfl,b3,rfl,rfl⟩
theorem read_any (name s:ByteArray) (hs:s.size ≤ 4611686018427387904) (w:World) (hv:Vars w):Calls Tryz.prog 65 #[.string name,.string s] w fun e w'=>Rdr (rd (knd name) s) w e w':=by
 rcases knd_cases name with ⟨hk,h0,h1,h2,h3,h4,h5,h6⟩ | ⟨hk,h0,h1,h2,h3,h4,h5,h6⟩ | ⟨hk,h0,h1,h2,h3,h4,h5,h6⟩ | ⟨hk,h0,h1,h2,h3,h4,h5,h6⟩ | ⟨hk,h0,h1,h2,h3,h4,h5,h6⟩ | ⟨hk,h0,h1,h2,h3,h4,h5,h6⟩ | ⟨hk,h0,h1,h2,h3,h4,h5,h6⟩ | ⟨hk,h0,h1,h2,h3,h4,h5,h6⟩
 ·rw [hk]
  exact read_k0 name s h0 w _ (ans_told (rd 0 s)) fun w' k=>readName_any s hs w'
 ·rw [hk]
  exact read_k1 name s h0 h1 w _ (ans_told (rd 1 s)) fun w' k=>readVersion_any s hs w' (hv.on k).maxLen
 ·rw [hk]
  exact read_k2 name s h0 h1 h2 w _ (ans_told (rd 2 s)) fun w' k=>readClauses_any s hs w' (hv.on k)
 ·rw [hk]
  exact read_k3 name s h0 h1 h2 h3 w _ (ans_told (rd 3 s)) fun w' k=>readAtoms_any s hs w' (hv.on k)
 ·rw [hk]
  exact read_k4 name s h0 h1 h2 h3 h4 w _ (ans_told (rd 4 s)) fun w' k=>readProvides_any s hs w' (hv.on k)
 ·rw [hk]
  exact read_k5 name s h0 h1 h2 h3 h4 h5 w _ (ans_told (rd 5 s)) fun w' k=>readYes_any s w'
 ·rw [hk]
  exact read_k6 name s h0 h1 h2 h3 h4 h5 h6 w _ (ans_told (rd 6 s)) fun w' k=>readCount_any s hs w'
 ·rw [hk]
  exact read_k7 name s h0 h1 h2 h3 h4 h5 h6 w _ (ans_told (rd 7 s)) fun w'=>⟨rfl,rfl⟩
end Va
end Go.Proofs.YthmpepnikmdjpaaGreatDoor

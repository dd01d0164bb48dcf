/-
Parse.
-/
import Derived.Test.YtgpcilepkmckeaaGreatDoorCVerParse
namespace Go.Proofs.YtgpcilepkmckeaaGreatDoor
open Go.RowKit
set_option linter.unusedSimpArgs false
set_option linter.unusedVariables false
namespace Ver
theorem results_tmp4 {fn:Func} {t u v x:Tmp} (h:fn.results = #[.tmp t,.tmp u,.tmp v,.tmp x]) (tmps:Array Value) (P:Program) (w:World) :
  (results fn tmps).run P w = .ok (.tuple #[tmps.getD t undef,tmps.getD u undef,tmps.getD v undef,tmps.getD x undef]) w:=by
 simp [results,h,go_sem]
def toldV:Option (Bs × Bs × Bs) → Value
 | none=>.tuple #[.string ⟨#[]⟩,.string ⟨#[]⟩,.string ⟨#[]⟩,.int .i64 3]
 | some p=>.tuple #[.string (S p.1),.string (S p.2.1),.string (S p.2.2),.int .i64 0]
theorem parse_size {l:Bs} (h:¬ (1 ≤ l.length ∧ l.length ≤ 48)):parse l = none:=by unfold parse; rw [if_neg h]
theorem parse_ep {l:Bs} (h:(epF l).2.2 = false):parse l = none:=by
 unfold parse
 rw [ep_is,h]
 split <;> rfl
theorem parse_rv {l:Bs} (h0:(epF l).2.2 = true) (h:(rvF (epF l).2.1).2.2 = false):parse l = none:=by
 unfold parse
 rw [ep_is,h0,if_pos rfl]
 split
 ·simp only
  rw [rvF_is,h]
  rfl
 ·rfl
theorem parse_up {l:Bs} (h1:1 ≤ l.length ∧ l.length ≤ 48) (h0:(epF l).2.2 = true) (h:(rvF (epF l).2.1).2.2 = true) :
  parse l = if upOK (rvF (epF l).2.1).1 = true then some ((epF l).1,(rvF (epF l).2.1).1,(rvF (epF l).2.1).2.1) else none:=by
 unfold parse
 rw [ep_is,h0,if_pos rfl,if_pos h1]
 simp only
 rw [rvF_is,h,if_pos rfl]
theorem epF_len (l:Bs):(epF l).2.1.length ≤ l.length:=by
 unfold epF
 cases hc:cut1 58 l with
 | none=>exact Nat.le_refl _
 | some p =>
  have:=congrArg List.length (cut1_parts _ _ p.1 p.2 hc)
  rw [List.length_append,List.length_cons] at this
  show p.2.length ≤ _
  omega
theorem rvF_len (l:Bs):(rvF l).1.length ≤ l.length:=by
 unfold rvF
 cases hc:cutZ 45 l with
 | none=>exact Nat.le_refl _
 | some p =>
  have:=congrArg List.length (cutZ_parts _ _ p.1 p.2 hc)
  rw [List.length_append,List.length_cons] at this
  show p.1.length ≤ _
  omega
set_option maxRecDepth 100000 in
set_option maxHeartbeats 1000000 in
theorem parse_gb (s:ByteArray) (w:World) (hs:s.size ≤ 4611686018427387904) (hm:MaxLen w) :
  Calls Tryz.prog 89 #[.string s] w fun e w'=>e = .returned (toldV (parse (li s))) ∧ Gb w.heap.size w w':=by
 by_cases h0:s.size = 0
 ·obtain ⟨e1,e2⟩:=empty_is h0
  rw [parse_size (by rw [li_len]; omega)]
  clear e2
  unfold toldV
  go_enter Tryz.func89,Tryz.ntmps89
  go_wp2_with fail
  refine bodyPost_ret (results_tmp4 rfl _ _ _) rfl ?_
  exact ⟨rfl,Gb.refl _ _⟩
 obtain ⟨e1,e2⟩:=empty_no h0
 clear e2
 by_cases h48:48 < s.size
 ·have h48':48 < (s.size:Int):=by omega
  rw [parse_size (by rw [li_len]; omega)]
  unfold toldV
  go_enter Tryz.func89,Tryz.ntmps89
  go_wp2_with fail
  refine bodyPost_ret (results_tmp4 rfl _ _ _) rfl ?_
  exact ⟨rfl,Gb.refl _ _⟩
 have h48':¬ 48 < (s.size:Int):=by omega
 have c1:=cutEpoch_gb s w (by omega) hm
 have hl:1 ≤ (li s).length ∧ (li s).length ≤ 48:=by rw [li_len]; omega
 have l1:=epF_len (li s)
 have l2:=rvF_len (epF (li s)).2.1
 cases he:(epF (li s)).2.2
 ·rw [parse_ep he]
  rw [he] at c1
  unfold toldV
  generalize S (epF (li s)).1 = x at *
  generalize S (epF (li s)).2.1 = y at *
  clear hl l1 l2 he
  go_enter Tryz.func89,Tryz.ntmps89
  go_wp2_with fail
  refine c1.mono ?_
  rintro e w1 ⟨rfl,k1⟩
  go_wp2_with fail
  refine bodyPost_ret (results_tmp4 rfl _ _ _) rfl ?_
  exact ⟨rfl,k1⟩
 ·rw [he] at c1
  have c2:=fun w=>cutRevision_gb (S (epF (li s)).2.1) w (by rw [S_size]; omega)
  rw [S_li] at c2
  cases hr:(rvF (epF (li s)).2.1).2.2
  ·rw [parse_rv he hr]
   rw [hr] at c2
   unfold toldV
   generalize S (rvF (epF (li s)).2.1).1 = u at *
   generalize S (rvF (epF (li s)).2.1).2.1 = v at *
   generalize S (epF (li s)).1 = x at *
   generalize S (epF (li s)).2.1 = y at *
   clear hl l1 l2 he hr
   go_enter Tryz.func89,Tryz.ntmps89
   go_wp2_with fail
   refine c1.mono ?_
   rintro e w1 ⟨rfl,k1⟩
   go_wp2_with fail
   refine (c2 _).mono ?_
   rintro e w2 ⟨rfl,k2⟩
   go_wp2_with fail
   refine bodyPost_ret (results_tmp4 rfl _ _ _) rfl ?_
   exact ⟨rfl,k1.trans (k2.mono k1.size)⟩
  ·rw [parse_up hl he hr]
   rw [hr] at c2
   have c3:=fun w=>isUpstream_gb (S (rvF (epF (li s)).2.1).1) w (by rw [S_size]; omega)
   rw [← up_is,S_li] at c3
   cases hu:upOK (rvF (epF (li s)).2.1).1
   ·rw [hu] at c3
    rw [if_neg (by simp)]
    unfold toldV
    generalize S (rvF (epF (li s)).2.1).1 = u at *
    generalize S (rvF (epF (li s)).2.1).2.1 = v at *
    generalize S (epF (li s)).1 = x at *
    generalize S (epF (li s)).2.1 = y at *
    clear hl l1 l2 he hr hu
    go_enter Tryz.func89,Tryz.ntmps89
    go_wp2_with fail
    refine c1.mono ?_
    rintro e w1 ⟨rfl,k1⟩
    go_wp2_with fail
    refine (c2 _).mono ?_
    rintro e w2 ⟨rfl,k2⟩
    go_wp2_with fail
    refine (c3 _).mono ?_
    rintro e w3 ⟨rfl,k3⟩
    go_wp2_with fail
    refine bodyPost_ret (results_tmp4 rfl _ _ _) rfl ?_
    exact ⟨rfl,k1.trans ((k2.trans (k3.mono k2.size)).mono k1.size)⟩
   ·rw [hu] at c3
    rw [if_pos rfl]
    unfold toldV
    simp only
    generalize S (rvF (epF (li s)).2.1).1 = u at *
    generalize S (rvF (epF (li s)).2.1).2.1 = v at *
    generalize S (epF (li s)).1 = x at *
    generalize S (epF (li s)).2.1 = y at *
    clear hl l1 l2 he hr hu
    go_enter Tryz.func89,Tryz.ntmps89
    go_wp2_with fail
    refine c1.mono ?_
    rintro e w1 ⟨rfl,k1⟩
    go_wp2_with fail
    refine (c2 _).mono ?_
    rintro e w2 ⟨rfl,k2⟩
    go_wp2_with fail
    refine (c3 _).mono ?_
    rintro e w3 ⟨rfl,k3⟩
    go_wp2_with fail
    refine bodyPost_ret (results_tmp4 rfl _ _ _) rfl ?_
    exact ⟨rfl,k1.trans ((k2.trans (k3.mono k2.size)).mono k1.size)⟩
theorem parse_any (s:ByteArray) (w:World) (hs:s.size ≤ 4611686018427387904) (hm:MaxLen w) :
  Calls Tryz.prog 89 #[.string s] w fun e w'=>e = .returned (toldV (parse (li s))) ∧ Below w.heap.size w w' :=
 (parse_gb s w hs hm).mono fun _ _ h=>⟨h.1,h.2.toBelow⟩
theorem isVersion_gb (s:ByteArray) (w:World) (hs:s.size ≤ 4611686018427387904) (hm:MaxLen w) :
  Calls Tryz.prog 131 #[.string s] w fun e w'=>e = .returned (.bool (parse (li s)).isSome) ∧ Gb w.heap.size w w':=by
 have c:=parse_gb s w hs hm
 cases hp:parse (li s) with
 | none =>
  rw [hp] at c
  unfold toldV at c
  clear hp
  go_enter Tryz.func131,Tryz.ntmps131
  go_wp2_with fail
  refine c.mono ?_
  rintro e w1 ⟨rfl,k1⟩
  go_wp2_with fail
  go_ret
  exact ⟨rfl,k1⟩
 | some p =>
  rw [hp] at c
  unfold toldV at c
  clear hp
  simp only at c
  generalize S p.1 = x at *
  generalize S p.2.1 = y at *
  generalize S p.2.2 = z at *
  go_enter Tryz.func131,Tryz.ntmps131
  go_wp2_with fail
  refine c.mono ?_
  rintro e w1 ⟨rfl,k1⟩
  go_wp2_with fail
  go_ret
  exact ⟨rfl,k1⟩
theorem isVersion_any (s:ByteArray) (w:World) (hs:s.size ≤ 4611686018427387904) (hm:MaxLen w) :
  Calls Tryz.prog 131 #[.string s] w fun e w'=>e = .returned (.bool (parse (li s)).isSome) ∧ Below w.heap.size w w' :=
 (isVersion_gb s w hs hm).mono fun _ _ h=>⟨h.1,h.2.toBelow⟩
end Ver
end Go.Proofs.YtgpcilepkmckeaaGreatDoor

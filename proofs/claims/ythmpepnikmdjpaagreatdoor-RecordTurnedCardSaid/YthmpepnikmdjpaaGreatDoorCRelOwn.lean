/-
The reader of package relation: an atom. Rows of the call's own: where they lie, their cells; append of one element.
-/
import Derived.Test.YthmpepnikmdjpaaGreatDoorCRelAtom
import Derived.Test.YthmpepnikmdjpaaGreatDoorCVerDef
namespace Go.Proofs.YthmpepnikmdjpaaGreatDoor
open Go.RowKit
set_option linter.unusedSimpArgs false
set_option linter.unusedVariables false
namespace Rl
open Ver (Bs li li_len li_drop S S_self S_of S_size S_li below_drewN empty_is empty_no MaxLen Signs)
def zA:Value:=.agg #[.string ⟨#[]⟩,.int .i64 0,.string ⟨#[]⟩]
def toldA:Option (At × Bs) → Value
 | none=>.tuple #[zA,.int .i64 3]
 | some q=>.tuple #[aV q.1,.int .i64 0]
def nextA (w:World) (p:Nat):Option (At × Bs) → Prop
 | none=>∃ l,Rd w p l
 | some q=>Rd w p q.2
theorem Rd.sizes {w:World} {p:Nat} {l:Bs} (h:Rd w p l):p < w.heap.size ∧ l.length ≤ 4611686018427387904:=⟨h.1.lt,h.2⟩
theorem tw_small (q:UInt8 → Bool) {l:Bs} (h:l.length ≤ 4611686018427387904):(l.takeWhile q).length ≤ 4611686018427387904:=Nat.le_trans (tw_len q l) h
def Off (p:Nat):Prop:=p ≠ 2 ∧ p ≠ 1
theorem Vars.one {w w':World} {p:Nat} (h:Vars w) (hc:Blk.Chg (fun k=>k = p) w w') (hp:Off p):Vars w':=h.chg hc (fun e=>hp.1 e.symm) fun e=>hp.2 e.symm
theorem Vars.off {w:World} (h:Vars w) {b:Nat} (hb:w.heap.size ≤ b):Off b:=by
 have h1:=h.maxLen.lt
 have h2:=Ver.lt_cell (h.signs 0 (by omega))
 have h3:1 < w.heap.size:=h2
 exact ⟨by omega,by omega⟩
structure St (w u:World) (p b:Nat) (l:Bs) (x y z:Value):Prop where
 np:p < w.heap.size
 nb:w.heap.size < b
 rd:Rd u p l
 at':Blk.Is u b 78 #[x,y,z]
 res:Blk.Is u w.heap.size 78 #[.string ⟨#[]⟩,.int .i64 0,.string ⟨#[]⟩]
 chg:Blk.Chg (fun k=>k = p) w u
 vars:Vars u
theorem St.cells {w u:World} {p b:Nat} {l:Bs} {x y z:Value} (h:St w u p b l x y z):u.cell? ⟨b,0,none⟩ = some x ∧ u.cell? ⟨b,1,none⟩ = some y ∧ u.cell? ⟨b,2,none⟩ = some z ∧ u.frozen? ⟨b,0,none⟩ = false ∧ u.frozen? ⟨b,1,none⟩ = false ∧ u.frozen? ⟨b,2,none⟩ = false :=
 ⟨h.at'.at rfl,h.at'.at rfl,h.at'.at rfl,h.at'.free _,h.at'.free _,h.at'.free _⟩
theorem St.rcells {w u:World} {p b:Nat} {l:Bs} {x y z:Value} (h:St w u p b l x y z):u.cell? ⟨w.heap.size,0,none⟩ = some (.string ⟨#[]⟩) ∧ u.cell? ⟨w.heap.size,1,none⟩ = some (.int .i64 0) ∧ u.cell? ⟨w.heap.size,2,none⟩ = some (.string ⟨#[]⟩) ∧ u.frozen? ⟨w.heap.size,0,none⟩ = false ∧ u.frozen? ⟨w.heap.size,1,none⟩ = false ∧ u.frozen? ⟨w.heap.size,2,none⟩ = false :=
 ⟨h.res.at rfl,h.res.at rfl,h.res.at rfl,h.res.free _,h.res.free _,h.res.free _⟩
theorem St.call {w u u':World} {p b:Nat} {l l':Bs} {x y z:Value} (h:St w u p b l x y z) (hp:Off p) (hr:Rd u' p l') (hc:Blk.Chg (fun k=>k = p) u u'):St w u' p b l' x y z:=by
 have h1:=h.np
 have h2:=h.nb
 exact ⟨h1,h2,hr,hc.is h.at' (by omega),hc.is h.res (by omega),h.chg.trans hc,h.vars.one hc hp⟩
theorem St.below {w u u':World} {p b:Nat} {l:Bs} {x y z:Value} (h:St w u p b l x y z) (hb:Below u.heap.size u u'):St w u' p b l x y z :=
 ⟨h.np,h.nb,h.rd.below hb,is_on h.at' hb,is_on h.res hb,h.chg.trans (Blk.Chg.ofBelow' hb),h.vars.on hb⟩
theorem St.write {w u:World} {p b:Nat} {l:Bs} {x y z:Value} (h:St w u p b l x y z) (hob:Off b) (i:Nat) (v:Value) {x' y' z':Value} (he:#[x',y',z'] = (#[x,y,z]:Array Value).setIfInBounds i v):St w (u.setCell ⟨b,i,none⟩ v) p b l x' y' z':=by
 have h1:=h.np
 have h2:=h.nb
 have hc:Blk.Chg (fun k=>k = b) u (u.setCell ⟨b,i,none⟩ v):=(Blk.Chg.refl (fun k=>k = b) u).setAt rfl
 refine ⟨h1,h2,h.rd.chg hc (by omega),by rw [he]; exact h.at'.set i v,hc.is h.res (by omega),?_,h.vars.one hc hob⟩
 exact h.chg.setCell' (p:=⟨b,i,none⟩) (Nat.le_of_lt h2) v
theorem St.fin {w u:World} {p b:Nat} {l:Bs} {x y z:Value} (h:St w u p b l x y z) (x' y' z':Value) :
  (((u.setCell ⟨w.heap.size,0,none⟩ x').setCell ⟨w.heap.size,1,none⟩ y').setCell ⟨w.heap.size,2,none⟩ z').cell? ⟨w.heap.size,0,none⟩ = some x' ∧
  (((u.setCell ⟨w.heap.size,0,none⟩ x').setCell ⟨w.heap.size,1,none⟩ y').setCell ⟨w.heap.size,2,none⟩ z').cell? ⟨w.heap.size,1,none⟩ = some y' ∧
  (((u.setCell ⟨w.heap.size,0,none⟩ x').setCell ⟨w.heap.size,1,none⟩ y').setCell ⟨w.heap.size,2,none⟩ z').cell? ⟨w.heap.size,2,none⟩ = some z' ∧
  Rd (((u.setCell ⟨w.heap.size,0,none⟩ x').setCell ⟨w.heap.size,1,none⟩ y').setCell ⟨w.heap.size,2,none⟩ z') p l ∧
  Blk.Chg (fun k=>k = p) w (((u.setCell ⟨w.heap.size,0,none⟩ x').setCell ⟨w.heap.size,1,none⟩ y').setCell ⟨w.heap.size,2,none⟩ z'):=by
 have h3:=((h.res.set 0 x').set 1 y').set 2 z'
 have hc:Blk.Chg (fun k=>k = w.heap.size) u (((u.setCell ⟨w.heap.size,0,none⟩ x').setCell ⟨w.heap.size,1,none⟩ y').setCell ⟨w.heap.size,2,none⟩ z') :=
  (((Blk.Chg.refl (fun k=>k = w.heap.size) u).setAt rfl).setAt rfl).setAt rfl
 have h1:=h.np
 refine ⟨h3.at rfl,h3.at rfl,h3.at rfl,h.rd.chg hc (by omega),?_⟩
 exact ((h.chg.setCell' (p:=⟨w.heap.size,0,none⟩) (Nat.le_refl _) x').setCell' (p:=⟨w.heap.size,1,none⟩) (Nat.le_refl _) y').setCell' (p:=⟨w.heap.size,2,none⟩) (Nat.le_refl _) z'
set_option maxRecDepth 100000 in
set_option maxHeartbeats 4000000 in
theorem readAtom_any (p:Nat) (l:Bs) (w:World) (h:Rd w p l) (hv:Vars w) (hp:Off p) :
  Calls Tryz.prog 208 #[.pointer (some ⟨p,0,none⟩)] w fun e w'=>e = .returned (toldA (atom l)) ∧ nextA w' p (atom l) ∧ Blk.Chg (fun k=>k = p) w w':=by
 have cr:=fun w h=>run_word p l w h
 have hpl:=h.sizes
 unfold atom
 generalize hn:l.takeWhile wd = n at *
 generalize hl1:skip (l.dropWhile wd) = l1 at *
 have hnl:n.length ≤ 4611686018427387904:=by rw [← hn]; exact tw_small wd h.2
 have ct:=fun w h=>take_any p l1 40 w h
 have hB0:Below w.heap.size w (w.alloc (.cells #[.string ⟨#[]⟩,.int .i64 0,.string ⟨#[]⟩] 78)):=(Below.refl _ _).alloc (Nat.le_refl _) _
 have hI0:=Blk.Is.new w 78 #[.string ⟨#[]⟩,.int .i64 0,.string ⟨#[]⟩]
 have hob:=fun b=>hv.off (b:=b)
 have hst:∀ u,Rd u p l1 → Blk.Chg (fun k=>k = p) (w.alloc (.cells #[.string ⟨#[]⟩,.int .i64 0,.string ⟨#[]⟩] 78)) u → Off u.heap.size ∧ St w (u.alloc (.cells #[.string (S n),.int .i64 0,.string ⟨#[]⟩] 78)) p u.heap.size l1 (.string (S n)) (.int .i64 0) (.string ⟨#[]⟩):=by
  intro u h1 h2
  have hs:=h2.size
  have hs0:w.heap.size < (w.alloc (.cells #[.string ⟨#[]⟩,.int .i64 0,.string ⟨#[]⟩] 78)).heap.size:=hI0.lt
  have hb:Below u.heap.size u (u.alloc (.cells #[.string (S n),.int .i64 0,.string ⟨#[]⟩] 78)):=(Below.refl _ _).alloc (Nat.le_refl _) _
  have hpl:=hpl.1
  exact ⟨hob _ (by omega),⟨hpl,by omega,h1.below hb,Blk.Is.new _ _ _,is_on (h2.is hI0 (by omega)) hb,((Blk.Chg.ofBelow' hB0).trans h2).alloc _,((hv.on hB0).one h2 hp).on hb⟩⟩
 have HST:=Lib.hid hst
 have H0:=Lib.hid (h.below hB0)
 clear hst h hv hob hB0 hI0
 have hz:S [] = ⟨#[]⟩:=rfl
 cases ht:tk 40 l1 with
 | none =>
  rw [ht] at ct
  simp only [Option.getD_none,Option.isSome_none] at ct
  simp only
  have cm:=fun w hv=>mayAtom_any (n,0,[]) w hnl (by simp) hv
  unfold aV at cm
  simp only [hz] at cm
  clear ht hl1 hn
  cases hm:may (n,0,[])
  ·rw [hm] at cm
   simp only [Bool.false_eq_true,if_false,toldA,zA,nextA]
   clear hm
   go_enter Tryz.func208,Tryz.ntmps208
   go_wp2_with fail
   generalize w.alloc (.cells #[.string ⟨#[]⟩,.int .i64 0,.string ⟨#[]⟩] 78) = W at *
   refine (cr _ H0.out).mono ?_
   rintro e w1 ⟨rfl,k1,k2⟩
   obtain ⟨ob,st⟩:=HST.out _ k1 k2
   have S1:=Lib.hid st
   clear k1 k2 st HST H0
   generalize hb:w1.heap.size = b at *
   go_wp2_with fail
   generalize w1.alloc (.cells #[.string (S n),.int .i64 0,.string ⟨#[]⟩] 78) = W1 at *
   refine (ct _ S1.out.rd).mono ?_
   rintro e w2 ⟨rfl,k1,k2⟩
   have S2:=Lib.hid (S1.out.call hp k1 k2)
   obtain ⟨c0,c1,c2,f0,f1,f2⟩:=S2.out.cells
   clear k1 k2 S1 hb
   go_wp2_with fail
   refine (cm _ S2.out.vars).mono ?_
   rintro e w3 ⟨rfl,k⟩
   have S3:=Lib.hid (S2.out.below k)
   clear c0 c1 c2 f0 f1 f2 k
   obtain ⟨r0,r1,r2,g0,g1,g2⟩:=S3.out.rcells
   have E:=S3.out.fin (.string ⟨#[]⟩) (.int .i64 0) (.string ⟨#[]⟩)
   go_wp2_with fail
   generalize ((w3.setCell ⟨w.heap.size,0,none⟩ (.string ⟨#[]⟩)).setCell ⟨w.heap.size,1,none⟩ (.int .i64 0)).setCell ⟨w.heap.size,2,none⟩ (.string ⟨#[]⟩) = V at *
   obtain ⟨j0,j1,j2,hrd,hch⟩:=E
   clear r0 r1 r2 g0 g1 g2
   refine bodyPost_ret (by simp [results,Tryz.results208,go_sem,j0,j1,j2]; try rfl) rfl ?_
   exact ⟨rfl,⟨_,hrd⟩,hch⟩
  ·rw [hm] at cm
   simp only [if_true,toldA,aV,nextA,hz]
   clear hm
   go_enter Tryz.func208,Tryz.ntmps208
   go_wp2_with fail
   generalize w.alloc (.cells #[.string ⟨#[]⟩,.int .i64 0,.string ⟨#[]⟩] 78) = W at *
   refine (cr _ H0.out).mono ?_
   rintro e w1 ⟨rfl,k1,k2⟩
   obtain ⟨ob,st⟩:=HST.out _ k1 k2
   have S1:=Lib.hid st
   clear k1 k2 st HST H0
   generalize hb:w1.heap.size = b at *
   go_wp2_with fail
   generalize w1.alloc (.cells #[.string (S n),.int .i64 0,.string ⟨#[]⟩] 78) = W1 at *
   refine (ct _ S1.out.rd).mono ?_
   rintro e w2 ⟨rfl,k1,k2⟩
   have S2:=Lib.hid (S1.out.call hp k1 k2)
   obtain ⟨c0,c1,c2,f0,f1,f2⟩:=S2.out.cells
   clear k1 k2 S1 hb
   go_wp2_with fail
   refine (cm _ S2.out.vars).mono ?_
   rintro e w3 ⟨rfl,k⟩
   have S3:=Lib.hid (S2.out.below k)
   clear c0 c1 c2 f0 f1 f2 k
   obtain ⟨c0,c1,c2,f0,f1,f2⟩:=S3.out.cells
   obtain ⟨r0,r1,r2,g0,g1,g2⟩:=S3.out.rcells
   have E:=S3.out.fin (.string (S n)) (.int .i64 0) (.string ⟨#[]⟩)
   go_wp2_with fail
   generalize ((w3.setCell ⟨w.heap.size,0,none⟩ (.string (S n))).setCell ⟨w.heap.size,1,none⟩ (.int .i64 0)).setCell ⟨w.heap.size,2,none⟩ (.string ⟨#[]⟩) = V at *
   obtain ⟨j0,j1,j2,hrd,hch⟩:=E
   clear r0 r1 r2 g0 g1 g2
   refine bodyPost_ret (by simp [results,Tryz.results208,go_sem,j0,j1,j2]; try rfl) rfl ?_
   exact ⟨rfl,hrd,hch⟩
 | some l2 =>
  rw [ht] at ct
  simp only [Option.getD_some,Option.isSome_some] at ct
  simp only
  have hl2:l2.length ≤ 4611686018427387904:=by
   obtain ⟨t,e1,e2⟩:=tk_some ht
   have h1:=skip_le t
   have h2:l1.length ≤ l.length:=by rw [← hl1]; exact Nat.le_trans (skip_le _) (List.dropWhile_sublist _).length_le
   have h3:=congrArg List.length e1
   rw [List.length_cons] at h3
   have:=hpl.2
   rw [e2]; omega
  have cs:=fun w h=>run_sign p l2 w h
  have cl:=fun w hg=>Ver.rel_any (S (l2.takeWhile sg)) w hg
  rw [rel_S] at cl
  generalize hr:relN (l2.takeWhile sg) = r at *
  generalize S (l2.takeWhile sg) = s at *
  have hl3:(skip (l2.dropWhile sg)).length ≤ 4611686018427387904:=Nat.le_trans (skip_le _) (Nat.le_trans (List.dropWhile_sublist _).length_le hl2)
  generalize skip (l2.dropWhile sg) = l3 at *
  have cw:=fun w h=>run_word p l3 w h
  have hvl:(l3.takeWhile wd).length ≤ 4611686018427387904:=tw_small wd hl3
  generalize l3.takeWhile wd = v at *
  generalize skip (l3.dropWhile wd) = l4 at *
  have ce:=fun w h=>take_any p l4 41 w h
  have cm:=fun w hv=>mayAtom_any (n,r,v) w hnl hvl hv
  unfold aV at cm
  simp only at cm
  clear ht hl1 hn hr hl2 hl3 hvl hnl
  by_cases hr0:r = 0
  ·subst hr0
   simp only [if_true,toldA,zA,nextA]
   clear ce cm
   go_enter Tryz.func208,Tryz.ntmps208
   go_wp2_with fail
   generalize w.alloc (.cells #[.string ⟨#[]⟩,.int .i64 0,.string ⟨#[]⟩] 78) = W at *
   refine (cr _ H0.out).mono ?_
   rintro e w1 ⟨rfl,k1,k2⟩
   obtain ⟨ob,st⟩:=HST.out _ k1 k2
   have S1:=Lib.hid st
   clear k1 k2 st HST H0
   generalize hb:w1.heap.size = b at *
   go_wp2_with fail
   generalize w1.alloc (.cells #[.string (S n),.int .i64 0,.string ⟨#[]⟩] 78) = W1 at *
   refine (ct _ S1.out.rd).mono ?_
   rintro e w2 ⟨rfl,k1,k2⟩
   have S2:=Lib.hid (S1.out.call hp k1 k2)
   obtain ⟨c0,c1,c2,f0,f1,f2⟩:=S2.out.cells
   clear k1 k2 S1 hb
   go_wp2_with fail
   refine (cs _ S2.out.rd).mono ?_
   rintro e w3 ⟨rfl,k1,k2⟩
   have S3:=Lib.hid (S2.out.call hp k1 k2)
   clear k1 k2 S2 c0 c1 c2 f0 f1 f2
   obtain ⟨c0,c1,c2,f0,f1,f2⟩:=S3.out.cells
   go_wp2_with fail
   refine (cl _ S3.out.vars.signs).mono ?_
   rintro e w4 ⟨rfl,rfl⟩
   have S4:=Lib.hid (S3.out.write ob 1 (.int .i64 0) rfl)
   clear S3
   go_wp2_with fail
   generalize w4.setCell ⟨b,1,none⟩ (.int .i64 0) = W4 at *
   refine (cw _ S4.out.rd).mono ?_
   rintro e w5 ⟨rfl,k1,k2⟩
   have S5:=Lib.hid (S4.out.call hp k1 k2)
   clear k1 k2 S4 c0 c1 c2 f0 f1 f2
   obtain ⟨c0,c1,c2,f0,f1,f2⟩:=S5.out.cells
   have S6:=Lib.hid (S5.out.write ob 2 (.string (S v)) rfl)
   obtain ⟨r0,r1,r2,g0,g1,g2⟩:=S6.out.rcells
   have E:=S6.out.fin (.string ⟨#[]⟩) (.int .i64 0) (.string ⟨#[]⟩)
   go_wp2_with fail
   generalize (((w5.setCell ⟨b,2,none⟩ (.string (S v))).setCell ⟨w.heap.size,0,none⟩ (.string ⟨#[]⟩)).setCell ⟨w.heap.size,1,none⟩ (.int .i64 0)).setCell ⟨w.heap.size,2,none⟩ (.string ⟨#[]⟩) = V at *
   obtain ⟨j0,j1,j2,hrd,hch⟩:=E
   clear r0 r1 r2 g0 g1 g2
   refine bodyPost_ret (by simp [results,Tryz.results208,go_sem,j0,j1,j2]; try rfl) rfl ?_
   exact ⟨rfl,⟨_,hrd⟩,hch⟩
  ·rw [if_neg hr0]
   have hr1:(r == 0) = false:=by simpa using hr0
   clear hr0
   cases he:tk 41 l4 with
   | none =>
    rw [he] at ce
    simp only [Option.getD_none,Option.isSome_none] at ce
    simp only [toldA,zA,nextA]
    clear cm he
    go_enter Tryz.func208,Tryz.ntmps208
    go_wp2_with fail
    generalize w.alloc (.cells #[.string ⟨#[]⟩,.int .i64 0,.string ⟨#[]⟩] 78) = W at *
    refine (cr _ H0.out).mono ?_
    rintro e w1 ⟨rfl,k1,k2⟩
    obtain ⟨ob,st⟩:=HST.out _ k1 k2
    have S1:=Lib.hid st
    clear k1 k2 st HST H0
    generalize hb:w1.heap.size = b at *
    go_wp2_with fail
    generalize w1.alloc (.cells #[.string (S n),.int .i64 0,.string ⟨#[]⟩] 78) = W1 at *
    refine (ct _ S1.out.rd).mono ?_
    rintro e w2 ⟨rfl,k1,k2⟩
    have S2:=Lib.hid (S1.out.call hp k1 k2)
    obtain ⟨c0,c1,c2,f0,f1,f2⟩:=S2.out.cells
    clear k1 k2 S1 hb
    go_wp2_with fail
    refine (cs _ S2.out.rd).mono ?_
    rintro e w3 ⟨rfl,k1,k2⟩
    have S3:=Lib.hid (S2.out.call hp k1 k2)
    clear k1 k2 S2 c0 c1 c2 f0 f1 f2
    obtain ⟨c0,c1,c2,f0,f1,f2⟩:=S3.out.cells
    go_wp2_with fail
    refine (cl _ S3.out.vars.signs).mono ?_
    rintro e w4 ⟨rfl,rfl⟩
    have S4:=Lib.hid (S3.out.write ob 1 (.int .i64 r) rfl)
    clear S3
    go_wp2_with fail
    generalize w4.setCell ⟨b,1,none⟩ (.int .i64 r) = W4 at *
    refine (cw _ S4.out.rd).mono ?_
    rintro e w5 ⟨rfl,k1,k2⟩
    have S5:=Lib.hid (S4.out.call hp k1 k2)
    clear k1 k2 S4 c0 c1 c2 f0 f1 f2
    obtain ⟨c0,c1,c2,f0,f1,f2⟩:=S5.out.cells
    have S6:=Lib.hid (S5.out.write ob 2 (.string (S v)) rfl)
    go_wp2_with fail
    clear c0 c1 c2 f0 f1 f2
    generalize w5.setCell ⟨b,2,none⟩ (.string (S v)) = W6 at *
    refine (ce _ S6.out.rd).mono ?_
    rintro e w7 ⟨rfl,k1,k2⟩
    have S7:=Lib.hid (S6.out.call hp k1 k2)
    clear k1 k2 S6 S5
    obtain ⟨r0,r1,r2,g0,g1,g2⟩:=S7.out.rcells
    have E:=S7.out.fin (.string ⟨#[]⟩) (.int .i64 0) (.string ⟨#[]⟩)
    go_wp2_with fail
    generalize ((w7.setCell ⟨w.heap.size,0,none⟩ (.string ⟨#[]⟩)).setCell ⟨w.heap.size,1,none⟩ (.int .i64 0)).setCell ⟨w.heap.size,2,none⟩ (.string ⟨#[]⟩) = V at *
    obtain ⟨j0,j1,j2,hrd,hch⟩:=E
    clear r0 r1 r2 g0 g1 g2
    refine bodyPost_ret (by simp [results,Tryz.results208,go_sem,j0,j1,j2]; try rfl) rfl ?_
    exact ⟨rfl,⟨_,hrd⟩,hch⟩
   | some l5 =>
    rw [he] at ce
    simp only [Option.getD_some,Option.isSome_some] at ce
    simp only
    clear he
    cases hm:may (n,r,v)
    ·rw [hm] at cm
     simp only [Bool.false_eq_true,if_false,toldA,zA,nextA]
     clear hm
     go_enter Tryz.func208,Tryz.ntmps208
     go_wp2_with fail
     generalize w.alloc (.cells #[.string ⟨#[]⟩,.int .i64 0,.string ⟨#[]⟩] 78) = W at *
     refine (cr _ H0.out).mono ?_
     rintro e w1 ⟨rfl,k1,k2⟩
     obtain ⟨ob,st⟩:=HST.out _ k1 k2
     have S1:=Lib.hid st
     clear k1 k2 st HST H0
     generalize hb:w1.heap.size = b at *
     go_wp2_with fail
     generalize w1.alloc (.cells #[.string (S n),.int .i64 0,.string ⟨#[]⟩] 78) = W1 at *
     refine (ct _ S1.out.rd).mono ?_
     rintro e w2 ⟨rfl,k1,k2⟩
     have S2:=Lib.hid (S1.out.call hp k1 k2)
     obtain ⟨c0,c1,c2,f0,f1,f2⟩:=S2.out.cells
     clear k1 k2 S1 hb
     go_wp2_with fail
     refine (cs _ S2.out.rd).mono ?_
     rintro e w3 ⟨rfl,k1,k2⟩
     have S3:=Lib.hid (S2.out.call hp k1 k2)
     clear k1 k2 S2 c0 c1 c2 f0 f1 f2
     obtain ⟨c0,c1,c2,f0,f1,f2⟩:=S3.out.cells
     go_wp2_with fail
     refine (cl _ S3.out.vars.signs).mono ?_
     rintro e w4 ⟨rfl,rfl⟩
     have S4:=Lib.hid (S3.out.write ob 1 (.int .i64 r) rfl)
     clear S3
     go_wp2_with fail
     generalize w4.setCell ⟨b,1,none⟩ (.int .i64 r) = W4 at *
     refine (cw _ S4.out.rd).mono ?_
     rintro e w5 ⟨rfl,k1,k2⟩
     have S5:=Lib.hid (S4.out.call hp k1 k2)
     clear k1 k2 S4 c0 c1 c2 f0 f1 f2
     obtain ⟨c0,c1,c2,f0,f1,f2⟩:=S5.out.cells
     have S6:=Lib.hid (S5.out.write ob 2 (.string (S v)) rfl)
     go_wp2_with fail
     clear c0 c1 c2 f0 f1 f2
     generalize w5.setCell ⟨b,2,none⟩ (.string (S v)) = W6 at *
     refine (ce _ S6.out.rd).mono ?_
     rintro e w7 ⟨rfl,k1,k2⟩
     have S7:=Lib.hid (S6.out.call hp k1 k2)
     clear k1 k2 S6 S5
     obtain ⟨c0,c1,c2,f0,f1,f2⟩:=S7.out.cells
     go_wp2_with fail
     refine (cm _ S7.out.vars).mono ?_
     rintro e w8 ⟨rfl,k⟩
     have S8:=Lib.hid (S7.out.below k)
     clear c0 c1 c2 f0 f1 f2 k
     obtain ⟨r0,r1,r2,g0,g1,g2⟩:=S8.out.rcells
     have E:=S8.out.fin (.string ⟨#[]⟩) (.int .i64 0) (.string ⟨#[]⟩)
     go_wp2_with fail
     generalize ((w8.setCell ⟨w.heap.size,0,none⟩ (.string ⟨#[]⟩)).setCell ⟨w.heap.size,1,none⟩ (.int .i64 0)).setCell ⟨w.heap.size,2,none⟩ (.string ⟨#[]⟩) = V at *
     obtain ⟨j0,j1,j2,hrd,hch⟩:=E
     clear r0 r1 r2 g0 g1 g2
     refine bodyPost_ret (by simp [results,Tryz.results208,go_sem,j0,j1,j2]; try rfl) rfl ?_
     exact ⟨rfl,⟨_,hrd⟩,hch⟩
    ·rw [hm] at cm
     simp only [if_true,toldA,aV,nextA]
     clear hm
     go_enter Tryz.func208,Tryz.ntmps208
     go_wp2_with fail
     generalize w.alloc (.cells #[.string ⟨#[]⟩,.int .i64 0,.string ⟨#[]⟩] 78) = W at *
     refine (cr _ H0.out).mono ?_
     rintro e w1 ⟨rfl,k1,k2⟩
     obtain ⟨ob,st⟩:=HST.out _ k1 k2
     have S1:=Lib.hid st
     clear k1 k2 st HST H0
     generalize hb:w1.heap.size = b at *
     go_wp2_with fail
     generalize w1.alloc (.cells #[.string (S n),.int .i64 0,.string ⟨#[]⟩] 78) = W1 at *
     refine (ct _ S1.out.rd).mono ?_
     rintro e w2 ⟨rfl,k1,k2⟩
     have S2:=Lib.hid (S1.out.call hp k1 k2)
     obtain ⟨c0,c1,c2,f0,f1,f2⟩:=S2.out.cells
     clear k1 k2 S1 hb
     go_wp2_with fail
     refine (cs _ S2.out.rd).mono ?_
     rintro e w3 ⟨rfl,k1,k2⟩
     have S3:=Lib.hid (S2.out.call hp k1 k2)
     clear k1 k2 S2 c0 c1 c2 f0 f1 f2
     obtain ⟨c0,c1,c2,f0,f1,f2⟩:=S3.out.cells
     go_wp2_with fail
     refine (cl _ S3.out.vars.signs).mono ?_
     rintro e w4 ⟨rfl,rfl⟩
     have S4:=Lib.hid (S3.out.write ob 1 (.int .i64 r) rfl)
     clear S3
     go_wp2_with fail
     generalize w4.setCell ⟨b,1,none⟩ (.int .i64 r) = W4 at *
     refine (cw _ S4.out.rd).mono ?_
     rintro e w5 ⟨rfl,k1,k2⟩
     have S5:=Lib.hid (S4.out.call hp k1 k2)
     clear k1 k2 S4 c0 c1 c2 f0 f1 f2
     obtain ⟨c0,c1,c2,f0,f1,f2⟩:=S5.out.cells
     have S6:=Lib.hid (S5.out.write ob 2 (.string (S v)) rfl)
     go_wp2_with fail
     clear c0 c1 c2 f0 f1 f2
     generalize w5.setCell ⟨b,2,none⟩ (.string (S v)) = W6 at *
     refine (ce _ S6.out.rd).mono ?_
     rintro e w7 ⟨rfl,k1,k2⟩
     have S7:=Lib.hid (S6.out.call hp k1 k2)
     clear k1 k2 S6 S5
     obtain ⟨c0,c1,c2,f0,f1,f2⟩:=S7.out.cells
     go_wp2_with fail
     refine (cm _ S7.out.vars).mono ?_
     rintro e w8 ⟨rfl,k⟩
     have S8:=Lib.hid (S7.out.below k)
     clear c0 c1 c2 f0 f1 f2 k
     obtain ⟨c0,c1,c2,f0,f1,f2⟩:=S8.out.cells
     obtain ⟨r0,r1,r2,g0,g1,g2⟩:=S8.out.rcells
     have E:=S8.out.fin (.string (S n)) (.int .i64 r) (.string (S v))
     go_wp2_with fail
     generalize ((w8.setCell ⟨w.heap.size,0,none⟩ (.string (S n))).setCell ⟨w.heap.size,1,none⟩ (.int .i64 r)).setCell ⟨w.heap.size,2,none⟩ (.string (S v)) = V at *
     obtain ⟨j0,j1,j2,hrd,hch⟩:=E
     clear r0 r1 r2 g0 g1 g2
     refine bodyPost_ret (by simp [results,Tryz.results208,go_sem,j0,j1,j2]; try rfl) rfl ?_
     exact ⟨rfl,hrd,hch⟩
end Rl
end Go.Proofs.YthmpepnikmdjpaaGreatDoor
namespace Go.Proofs.YthmpepnikmdjpaaGreatDoor
open Go.RowKit
set_option linter.unusedSimpArgs false
set_option linter.unusedVariables false
namespace Rl
section
variable {w w':World}
theorem own_lt {B:Nat} {e:TypeId} {sz:Nat} {v:Value} {n:Nat} {xs:List Value} (h:w.ownsRow B e sz v n xs) {k:Nat} (hk:v.ownBlock = some k):B ≤ k ∧ k < w.heap.size:=by
 rcases h.2 with ⟨rfl,_⟩ | ⟨g,cap,cur,rfl,hg,hh,_⟩
 ·cases hk
 ·simp only [Value.ownBlock,Option.some.injEq] at hk
  subst hk
  exact ⟨hg,(Array.getElem?_eq_some_iff.1 hh).1⟩
theorem own_ne {B B':Nat} {e e':TypeId} {sz sz':Nat} {v v':Value} {n n':Nat} {xs xs':List Value} (h:w.ownsRow B e sz v n xs) (h':w.ownsRow B' e' sz' v' n' xs') (he:e ≠ e'):∀ k,v.ownBlock = some k → v'.ownBlock ≠ some k:=by
 intro k hk hk'
 rcases h.2 with ⟨rfl,_⟩ | ⟨g,cap,cur,rfl,hg,hh,_⟩
 ·cases hk
 rcases h'.2 with ⟨rfl,_⟩ | ⟨g',cap',cur',rfl,hg',hh',_⟩
 ·cases hk'
 simp only [Value.ownBlock,Option.some.injEq] at hk hk'
 subst hk
 subst hk'
 rw [hh] at hh'
 cases hh'
 exact he rfl
theorem own_mono {B B':Nat} {e:TypeId} {sz:Nat} {v:Value} {n:Nat} {xs:List Value} (h:w.ownsRow B e sz v n xs) (hB:B' ≤ B):w.ownsRow B' e sz v n xs:=by
 refine ⟨h.1,?_⟩
 rcases h.2 with h2 | ⟨g,cap,cur,h2,hg,r⟩
 ·exact .inl h2
 ·exact .inr ⟨g,cap,cur,h2,Nat.le_trans hB hg,r⟩
theorem own_set {B:Nat} {e:TypeId} {sz:Nat} {g cap n:Nat} {xs:List Value} (h:w.ownsRow B e sz (.slice (some ⟨g,0,none⟩) n cap) n xs) {i:Nat} (hi:i < xs.length) (u:Value) :
  (w.setCell ⟨g,i,none⟩ u).ownsRow B e sz (.slice (some ⟨g,0,none⟩) n cap) n (xs.set i u):=by
 obtain ⟨h1,h2⟩:=h
 rcases h2 with ⟨h2,_⟩ | ⟨g',cap',cur,h2,hg,hh,hn,hc,hs,ht⟩
 ·cases h2
 ·simp only [Value.slice.injEq,Option.some.injEq,Addr.mk.injEq,and_true,true_and] at h2
  obtain ⟨rfl,rfl⟩:=h2
  refine ⟨by simpa using h1,.inr ⟨g,cap,cur.setIfInBounds i u,rfl,hg,?_,hn,hc,by simpa using hs,?_⟩⟩
  ·exact (Blk.Is.set (w:=w) (b:=g) (T:=e) (cs:=cur) hh i u)
  ·rw [Array.toList_setIfInBounds,List.take_set,ht]
theorem own_cell {B:Nat} {e:TypeId} {sz:Nat} {g cap n:Nat} {xs:List Value} (h:w.ownsRow B e sz (.slice (some ⟨g,0,none⟩) n cap) n xs) {i:Nat} {u:Value} (hi:xs[i]? = some u):w.cell? ⟨g,i,none⟩ = some u:=by
 have:=h.cells (g:=g) rfl i u hi
 have e:(⟨g,0,none⟩:Addr).add i = ⟨g,i,none⟩:=by cases i <;> simp [Addr.add]
 rw [e] at this
 exact this
theorem own_free {B:Nat} {e:TypeId} {sz:Nat} {g cap n:Nat} {xs:List Value} (h:w.ownsRow B e sz (.slice (some ⟨g,0,none⟩) n cap) n xs) (i:Nat):w.frozen? ⟨g,i,none⟩ = false:=by
 obtain ⟨h1,h2⟩:=h
 rcases h2 with ⟨h2,_⟩ | ⟨g',cap',cur,h2,hg,hh,_⟩
 ·cases h2
 ·simp only [Value.slice.injEq,Option.some.injEq,Addr.mk.injEq,and_true,true_and] at h2
  obtain ⟨rfl,rfl⟩:=h2
  exact (Blk.Is.free (w:=w) (b:=g) (T:=e) (cs:=cur) hh i)
theorem own_slice {B:Nat} {e:TypeId} {sz:Nat} {v:Value} {n:Nat} {xs:List Value} (h:w.ownsRow B e sz v n xs) (hn:0 < n):∃ g cap,v = .slice (some ⟨g,0,none⟩) n cap ∧ n ≤ cap:=by
 rcases h.2 with ⟨_,h0⟩ | ⟨g,cap,cur,rfl,_,_,hc,_⟩
 ·omega
 ·exact ⟨g,cap,rfl,hc⟩
theorem own_shape {B:Nat} {e:TypeId} {sz:Nat} {v:Value} {n:Nat} {xs:List Value} (h:w.ownsRow B e sz v n xs):∃ a cap,v = .slice a n cap ∧ n ≤ cap:=by
 rcases h.2 with ⟨rfl,rfl⟩ | ⟨g,cap,cur,rfl,_,_,hc,_⟩
 ·exact ⟨none,0,rfl,Nat.le_refl _⟩
 ·exact ⟨_,cap,rfl,hc⟩
theorem own_is {w:World} {B:Nat} {e:TypeId} {sz:Nat} {v:Value} {n:Nat} {xs:List Value} (h:w.ownsRow B e sz v n xs) {k:Nat} (hk:v.ownBlock = some k):∃ cs,Blk.Is w k e cs:=by
 rcases h.2 with ⟨rfl,_⟩ | ⟨g,cap,cur,rfl,hg,hh,_⟩
 ·cases hk
 ·simp only [Value.ownBlock,Option.some.injEq] at hk
  subst hk
  exact ⟨cur,hh⟩
end
theorem append_el {tS e:TypeId} {z:Value} {sz bytes:Nat} (hu:Tryz.prog.underlying tS = some (.slice e)) (hi:(Tryz.prog.info? e).map (fun i=>(i.zero,i.size,i.bytes)) = some (some z,sz,bytes)) (hz:z.cells.size = sz) (hby:bytes ≤ 64)
  {w:World} {ops:Array Oper} {rest:List Oper} {o:Oper} {a:Act} {Q:Exit → Act → World → Prop} (hgd:o.guard = none) (s x:Operand)
  (ho:o.op = .call { callee:=.builtin .append,args:=#[s,x],argTypes:=#[tS,tS] })
  (B:Nat) (v:Value) (n:Nat) (xs:List Value) (hv:a.eval s = v) (hown:w.ownsRow B e sz v n xs) (k:Nat) (c:Nat) (hx:a.eval x = .slice (some ⟨k,0,none⟩) 1 c) (news:List Value) (hnl:news.length = sz) (hc:∀ (j:Nat) u,news[j]? = some u → w.cell? ⟨k,j,none⟩ = some u)
  (ho1:∀ u ∈ news,u.oneCell' = true) (hn:n + 1 ≤ 70000) (hB:B ≤ w.heap.size)
  (h:∀ v' w',w'.ownsRow B e sz v' (n + 1) (xs ++ news) → w.grownBy w' v.ownBlock → wpList Tryz.prog ops Q rest (a.put o.dst v') w'):wpList Tryz.prog ops Q (o :: rest) a w:=by
 obtain ⟨i0,hi,hz0,hz1,hz2⟩:=info_parts hi
 have hsrc:Src Tryz.prog sz tS (.slice (some ⟨k,0,none⟩) 1 c) 1 news w:=by
  refine Src.ofSlice w hu ⟨k,0,none⟩ 1 c news (by rw [hnl,Nat.one_mul]) (fun j u hj=>?_) ho1
  have:=hc j u hj
  have e:(⟨k,0,none⟩:Addr).add j = ⟨k,j,none⟩:=by cases j <;> simp [Addr.add]
  rw [e]; exact this
 have hmul:(n + 1) * bytes ≤ 70000 * 64:=Nat.mul_le_mul hn hby
 exact Own.wpList_append_src hgd s x tS tS ho B e i0 z sz bytes hu hi hz0 hz1 hz2 hz v n xs hv hown _ 1 news hx hsrc (by simp only [maxLen]; omega) (by omega) hB h
theorem infoA:(Tryz.prog.info? 78).map (fun i=>(i.zero,i.size,i.bytes)) = some (some (.agg #[.string ByteArray.empty,.int .i64 0,.string ByteArray.empty]),3,40):=by kernel_rfl
theorem infoC:(Tryz.prog.info? 72).map (fun i=>(i.zero,i.size,i.bytes)) = some (some (.slice none 0 0),1,24):=by kernel_rfl
theorem infoP:(Tryz.prog.info? 82).map (fun i=>(i.zero,i.size,i.bytes)) = some (some (.agg #[.string ByteArray.empty,.string ByteArray.empty]),2,32):=by kernel_rfl
end Rl
end Go.Proofs.YthmpepnikmdjpaaGreatDoor

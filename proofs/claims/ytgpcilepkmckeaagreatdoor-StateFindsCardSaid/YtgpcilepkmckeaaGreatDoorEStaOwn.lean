/-
Entries in rows of one's own: slices.Clone of entries, own.Entries.
-/
import Derived.Test.YtgpcilepkmckeaaGreatDoorEValBase
import Derived.Test.YtgpcilepkmckeaaGreatDoorEIxOwn2
import Derived.Deep.MidRow
namespace Go.Proofs.YtgpcilepkmckeaaGreatDoor
open Go.RowKit
set_option linter.unusedSimpArgs false
set_option linter.unusedVariables false
namespace Sa
open Ver (Bs li li_len S S_self S_size S_li)
open Rl (At Pv Ats Pvs Clss Slc mem_getD Cls acells pcells own_shape own_lt)
open Rc (Pk nPk Has CAt En nEn Ens EnC PkV infoEn)
open Ix (choose_list get_getD Hx ownPackage_any)
def RowE (w:World) (R:Nat) (d:List Et):Prop:=∀ i x,d[i]? = some x → ∀ j v,x.enc[j]? = some v → w.cell? ⟨R,11 * i + j,none⟩ = some v ∧ w.frozen? ⟨R,11 * i + j,none⟩ = false
def OkE (w:World) (R:Nat) (x:Et):Prop:=∀ u,Blk.Chg (fun k=>k = R) w u → Has u x.pk x.u1 x.u2 x.u3 x.u4 x.u5 x.u6
theorem OkE.on {w w':World} {R:Nat} {x:Et} (h:OkE w R x) (hc:Blk.Chg (fun k=>k = R) w w'):OkE w' R x:=fun u hu=>h u (hc.trans hu)
theorem OkE.here {w:World} {R:Nat} {x:Et} (h:OkE w R x):Has w x.pk x.u1 x.u2 x.u3 x.u4 x.u5 x.u6:=h w (Blk.Chg.refl _ _)
theorem RowE.below {w w':World} {R:Nat} {d:List Et} (h:RowE w R d) (hb:Below w.heap.size w w'):RowE w' R d:=fun i x hx j v hv=>by
 obtain ⟨h1,h2⟩:=h i x hx j v hv
 exact ⟨Rl.cell_on h1 hb,(hb.frozen (Ver.lt_cell h1)).trans h2⟩
theorem RowE.set {w:World} {R:Nat} {d:List Et} (h:RowE w R d) {i:Nat} (hi:i < d.length) (x:Et):RowE (w.setCells R (11 * i) x.enc) R (d.set i x):=fun k y hy j v hv=>by
 have hj:j < 11:=by have:=(List.getElem?_eq_some_iff.1 hv).1; exact this
 have he:∀ z:Et,z.enc.length = 11:=fun z=>rfl
 rw [World.frozen?_setCells]
 have hkl:k < d.length:=by have:=(List.getElem?_eq_some_iff.1 hy).1; simpa using this
 obtain ⟨z,hz⟩:∃ z,d[k]? = some z:=⟨d[k],List.getElem?_eq_getElem hkl⟩
 obtain ⟨v',hv'⟩:∃ v',z.enc[j]? = some v':=⟨z.enc[j]'(by rw [he]; exact hj),List.getElem?_eq_getElem _⟩
 have hold:=h k z hz j v' hv'
 refine ⟨?_,hold.2⟩
 by_cases e:k = i
 ·subst e
  rw [List.getElem?_set_self hi] at hy
  cases hy
  have hin:=World.cell?_setCells_in R x.enc (11 * k) w (fun j' hj'=>by
   obtain ⟨v2,hv2⟩:∃ v2,z.enc[j']? = some v2:=⟨z.enc[j']'(by rw [he]; exact hj'),List.getElem?_eq_getElem _⟩
   rw [(h k z hz j' v2 hv2).1]; rfl) j (by rw [he]; exact hj)
  rw [hin]
  exact hv ▸ (List.getElem?_eq_getElem (by rw [he]; exact hj)).symm
 ·rw [List.getElem?_set_ne (fun h=>e h.symm),hz] at hy
  cases hy
  rw [hv'] at hv
  cases hv
  rw [World.cell?_setCells_out R x.enc (11 * i) w _ (fun _ _=>by show 11 * k + j < 11 * i ∨ 11 * i + x.enc.length ≤ 11 * k + j; rw [he]; omega)]
  exact hold.1
theorem RowE.range {w:World} {R:Nat} {d:List Et} (h:RowE w R d) {i:Nat} {x:Et} (hx:d[i]? = some x):w.rangeAt R (11 * i) x.enc:=fun j v hv=>(h i x hx j v hv).1
theorem RowE.there {w:World} {R:Nat} {d:List Et} (h:RowE w R d) {i:Nat} {x:Et} (hx:d[i]? = some x):w.there R (11 * i) 11:=fun j hj=>by
 obtain ⟨v,hv⟩:∃ v,x.enc[j]? = some v:=⟨x.enc[j]'hj,List.getElem?_eq_getElem _⟩
 have:=h i x hx j v hv
 exact ⟨by rw [this.1]; rfl,this.2⟩
def PRowE (w:World) (B:Nat) (v:Value) (d:List Et):Prop :=
 ∃ a cap,v = .slice a d.length cap ∧ d.length ≤ cap ∧ (0 < d.length → ∃ R,a = some ⟨R,0,none⟩ ∧ B ≤ R ∧ R < w.heap.size ∧ RowE w R d ∧ ∀ x ∈ d,OkE w R x)
theorem PRowE.below {w w':World} {B:Nat} {v:Value} {d:List Et} (h:PRowE w B v d) (hb:Below w.heap.size w w'):PRowE w' B v d:=by
 obtain ⟨a,cap,h1,h2,h3⟩:=h
 refine ⟨a,cap,h1,h2,fun h0=>?_⟩
 obtain ⟨R,r1,r2,r3,r4,r5⟩:=h3 h0
 exact ⟨R,r1,r2,Nat.lt_of_lt_of_le r3 hb.size,r4.below hb,fun x hx=>(r5 x hx).on (Blk.Chg.ofBelow' hb)⟩

def EtAt (w:World) (k o:Nat) (x:Et):Prop:=∀ j u,x.enc[j]? = some u → w.cell? ⟨k,o + j,none⟩ = some u

def Et.en (x:Et):En:=⟨x.pk,x.cfg,x.hld⟩
theorem et_of {w:World} {cs:List Value} {p:En} (i:Nat) (h:EnC w cs p):∃ x:Et,x.en = p ∧ x.tg = i ∧ x.enc = cs ∧ Has w x.pk x.u1 x.u2 x.u3 x.u4 x.u5 x.u6:=by
 obtain ⟨u1,u2,u3,u4,u5,u6,rfl,hh⟩:=h
 refine ⟨⟨p.pk,u1,u2,u3,u4,u5,u6,p.cfg,p.hld,i,fun u hu=>?_⟩,rfl,rfl,rfl,hh⟩
 simp only [List.mem_cons,List.not_mem_nil,or_false] at hu
 rcases hu with rfl | rfl | rfl | rfl | rfl | rfl
 ·obtain ⟨a,c,e⟩:=hh.pre.shape; exact ⟨a,_,c,e⟩
 ·obtain ⟨a,c,e⟩:=hh.dep.shape; exact ⟨a,_,c,e⟩
 ·obtain ⟨a,c,e⟩:=hh.rcm.shape; exact ⟨a,_,c,e⟩
 ·obtain ⟨a,c,e⟩:=hh.con.shape; exact ⟨a,_,c,e⟩
 ·obtain ⟨a,c,e⟩:=hh.brk.shape; exact ⟨a,_,c,e⟩
 ·obtain ⟨a,c,e⟩:=hh.prv.shape; exact ⟨a,_,c,e⟩
theorem ets_of {w:World} {v:Value} {l:List En} (h:Ens w v l):∃ d:List Et,d.map Et.en = l ∧ (∀ (i:Nat) (x:Et),d[i]? = some x → x.tg = i) ∧ Slc 11 default EtAt w v d ∧ ∀ x ∈ d,Has w x.pk x.u1 x.u2 x.u3 x.u4 x.u5 x.u6:=by
 obtain ⟨h0,a,cap,h1,h2,h3⟩:=h
 by_cases hl:0 < l.length
 ·obtain ⟨k,off,rfl,hat⟩:=h3 hl
  obtain ⟨d,d1,d2⟩:=choose_list (P:=fun i (x:Et)=>x.en = l.getD i nEn ∧ x.tg = i ∧ (∀ j u,x.enc[j]? = some u → w.cell? ⟨k,off + 11 * i + j,none⟩ = some u) ∧ Has w x.pk x.u1 x.u2 x.u3 x.u4 x.u5 x.u6) l.length (fun i hi=>by
   obtain ⟨cs,c1,c2⟩:=hat i hi
   obtain ⟨x,x1,x0,x2,x3⟩:=et_of i c1
   exact ⟨x,x1,x0,fun j u hj=>c2 j u (by rw [← x2]; exact hj),x3⟩)
  have hm:d.map Et.en = l:=by
   apply List.ext_getElem?
   intro i
   rw [List.getElem?_map]
   by_cases hi:i < l.length
   ·obtain ⟨x,hx⟩:∃ x,d[i]? = some x:=⟨d[i]'(by omega),List.getElem?_eq_getElem (by omega)⟩
    rw [hx,List.getElem?_eq_getElem hi]
    have:=(d2 i x hx).1
    rw [List.getD_eq_getElem?_getD,List.getElem?_eq_getElem hi] at this
    exact congrArg some this
   ·rw [List.getElem?_eq_none (by omega),List.getElem?_eq_none (by omega)]; rfl
  refine ⟨d,hm,fun i x hx=>(d2 i x hx).2.1,⟨by omega,_,cap,by rw [d1]; exact h1,by omega,fun _=>⟨k,off,rfl,fun i hi=>?_⟩⟩,fun x hx=>?_⟩
  ·obtain ⟨x,hx⟩:∃ x,d[i]? = some x:=⟨d[i],List.getElem?_eq_getElem hi⟩
   rw [get_getD hx]
   exact (d2 i x hx).2.2.1
  ·obtain ⟨i,hi⟩:=List.mem_iff_getElem?.1 hx
   exact (d2 i x hi).2.2.2
 ·have:l = []:=List.eq_nil_of_length_eq_zero (by omega)
  subst this
  exact ⟨[],rfl,fun i x hx=>by simp at hx,⟨by simp,a,cap,h1,h2,fun h=>absurd h (by simp)⟩,fun x hx=>by cases hx⟩
set_option maxRecDepth 100000 in
set_option maxHeartbeats 2000000 in
theorem cloneEntries_any (v:Value) (d:List Et) (w:World) (h:Slc 11 default EtAt w v d) (hl:d.length ≤ 60000) :
  Calls Tryz.prog 49 #[v] w fun e w'=>∃ v',e = .returned v' ∧ w'.ownsRow w.heap.size 45 11 v' d.length (d.flatMap Et.enc) ∧ Below w.heap.size w w':=by
 obtain ⟨h0,a,cap,rfl,hc,hr⟩:=id h
 cases a with
 | none =>
  have hn:d.length = 0:=by
   by_cases h0:0 < d.length
   ·obtain ⟨k,off,e,_⟩:=hr h0; cases e
   ·omega
  have:d = []:=List.eq_nil_of_length_eq_zero hn
  subst this
  clear hr h
  have hq:∀ w:World,(binOp BinOp.eql 26 (.slice none 0 cap) (.slice none 0 0)).run Tryz.prog w = .ok (.bool true) w:=fun w=>by kernel_rfl
  go_enter Tryz.func49,Tryz.ntmps49
  go_wp2_with fail
  go_ret
  exact ⟨_,rfl,World.ownsRow_nil _ _ _ _,Below.refl _ _⟩
 | some ad =>
  have hB:Below w.heap.size w (w.alloc (.cells #[] 45)):=(Below.refl _ _).alloc (Nat.le_refl _) _
  have SRC:=Lib.hid (Va.slc_src (sz:=11) (by omega) Et.enc (fun x=>rfl) (fun w k o x hx j u hj=>hx j u hj) Et.one Tryz.underlying26 (Slc.below (P:=EtAt) (fun _ _ _ _ _ h hb j u hj=>Rl.cell_on (h j u hj) hb) h hB))
  have OWN:=Lib.hid (World.ownsRow_lit (base:=w.heap.size) (e:=45) (size:=11) w #[] 0 (Nat.le_refl _) (by decide) rfl)
  have HB:=Lib.hid hB
  have hsz:=hB.size
  obtain ⟨i0,hi,hz0,hz1,hz2⟩:=info_parts infoEn
  obtain ⟨N,hN⟩:∃ N,d.length = N:=⟨_,rfl⟩
  have HI:=Lib.hid hi
  obtain ⟨CS,hCS⟩:∃ CS,(d.flatMap Et.enc) = CS:=⟨_,rfl⟩
  rw [hCS] at SRC ⊢
  rw [hN] at hl SRC h0 hc ⊢
  clear h hr hi hB hN hCS
  have hq:∀ w:World,(binOp BinOp.eql 26 (.slice (some ad) N cap) (.slice none 0 0)).run Tryz.prog w = .ok (.bool false) w:=fun w=>by kernel_rfl
  go_enter Tryz.func49,Tryz.ntmps49
  go_wp2_with (at_builtin; refine Own.wpList_append_src rfl (.tmp 5) (.tmp 6) 26 26 rfl w.heap.size 45 i0 _ 11 192 Tryz.underlying26 HI.out hz0 hz1 hz2 rfl _ 0 [] rfl OWN.out _ N CS rfl SRC.out (by simp only [maxLen]; omega) (by omega) hsz ?_; intro v' w' o1 g1; have k1:Below w.heap.size w w':=Own.below_grown HB.out OWN.out g1 hsz)
  have o2:w'.ownsRow w.heap.size 45 11 v' N CS:=by simpa using o1
  clear o1 g1
  go_ret
  exact ⟨_,rfl,o2,k1⟩

theorem chg_setCells (R:Nat):∀ (vs:List Value) (o:Nat) (w:World),Blk.Chg (fun k=>k = R) w (w.setCells R o vs)
 | [],_,w=>Blk.Chg.refl _ w
 | v :: r,o,w=>by
  have h:Blk.Chg (fun k=>k = R) w (w.setCell ⟨R,o,none⟩ v):=(Blk.Chg.refl _ w).setAt rfl
  exact h.trans (chg_setCells R r (o + 1) _)
theorem prowE_of_own {w w':World} {v:Value} {d:List Et} (ho:w'.ownsRow w.heap.size 45 11 v d.length (d.flatMap Et.enc)) (hk:Below w.heap.size w w') (hh:∀ x ∈ d,Has w x.pk x.u1 x.u2 x.u3 x.u4 x.u5 x.u6):PRowE w' w.heap.size v d:=by
 obtain ⟨a,cap,rfl,hc⟩:=own_shape ho
 refine ⟨a,cap,rfl,hc,fun h0=>?_⟩
 obtain ⟨R,c2,e,hcap⟩:=Rl.own_slice ho h0
 simp only [Value.slice.injEq,true_and] at e
 obtain ⟨rfl,rfl⟩:=e
 have hlt:=own_lt ho (k:=R) rfl
 refine ⟨R,rfl,hlt.1,hlt.2,fun i x hx j v hv=>⟨Rl.own_cell ho ?_,Rl.own_free ho _⟩,fun x hx u hu=>?_⟩
 ·rw [Rl.flat_at Et.enc 11 (fun _=>rfl) d i j x hx ((List.getElem?_eq_some_iff.1 hv).1)]
  exact hv
 ·refine (hh x hx).below ⟨hu.os.trans hk.os,hu.tape.trans hk.tape,hu.output.trans hk.output,Nat.le_trans hk.size hu.size,fun k hk2=>?_⟩
  rw [hu.block k (by have:=hk.size; omega) (by omega),hk.block k hk2]

theorem RowE.set9 {w:World} {R:Nat} {d:List Et} (h:RowE w R d) {i:Nat} {x z:Et} (hx:d[i]? = some x) (cs:List Value) (hcs:z.enc = cs ++ [.bool x.cfg,.bool x.hld]) (h9:cs.length = 9):RowE (w.setCells R (11 * i) cs) R (d.set i z):=fun k y hy j v hv=>by
 have hxe:x.enc = x.enc.take 9 ++ [.bool x.cfg,.bool x.hld]:=rfl
 have hi:i < d.length:=(List.getElem?_eq_some_iff.1 hx).1
 have hj:j < 11:=(List.getElem?_eq_some_iff.1 hv).1
 rw [World.frozen?_setCells]
 by_cases e:k = i
 ·subst e
  rw [List.getElem?_set_self hi] at hy
  cases hy
  obtain ⟨v',hv'⟩:∃ v',x.enc[j]? = some v':=⟨x.enc[j]'hj,List.getElem?_eq_getElem _⟩
  have hold:=h k x hx j v' hv'
  refine ⟨?_,hold.2⟩
  by_cases hj9:j < 9
  ·have hin:=World.cell?_setCells_in R cs (11 * k) w (fun j' hj'=>by
    obtain ⟨v2,hv2⟩:∃ v2,x.enc[j']? = some v2:=⟨x.enc[j']'(by show j' < 11; omega),List.getElem?_eq_getElem _⟩
    rw [(h k x hx j' v2 hv2).1]; rfl) j (by omega)
   rw [hin]
   rw [hcs,List.getElem?_append_left (by omega)] at hv
   exact hv ▸ (List.getElem?_eq_getElem (by omega)).symm
  ·rw [World.cell?_setCells_out R cs (11 * k) w _ (fun _ _=>by show 11 * k + j < 11 * k ∨ 11 * k + cs.length ≤ 11 * k + j; omega),hold.1]
   rw [hcs,List.getElem?_append_right (by omega),h9] at hv
   rw [hxe,List.getElem?_append_right (by show 9 ≤ j; omega)] at hv'
   have e9:(x.enc.take 9).length = 9:=rfl
   rw [e9,hv] at hv'
   exact hv'.symm
 ·rw [List.getElem?_set_ne (fun h=>e h.symm)] at hy
  have hold:=h k y hy j v hv
  refine ⟨?_,hold.2⟩
  rw [World.cell?_setCells_out R cs (11 * i) w _ (fun _ _=>by show 11 * k + j < 11 * i ∨ 11 * i + cs.length ≤ 11 * k + j; omega)]
  exact hold.1
end Sa
end Go.Proofs.YtgpcilepkmckeaaGreatDoor

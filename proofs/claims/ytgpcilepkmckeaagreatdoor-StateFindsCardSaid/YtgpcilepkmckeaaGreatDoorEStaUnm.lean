/-
Violations in a row of the call's own; unmet: which clauses no configured one meets.
-/
import Derived.Test.YtgpcilepkmckeaaGreatDoorEStaMet
namespace Go.Proofs.YtgpcilepkmckeaaGreatDoor
open Go.RowKit
set_option linter.unusedSimpArgs false
set_option linter.unusedVariables false
namespace Sa
open Ver (Bs li li_len S S_self S_size S_li)
open Rl (At Pv Ats Pvs Clss Slc LimA LimP LimC Vars aV nA mem_getD)
open Rc (Pk nPk PkV PkB Has En nEn Ens EnC CAt en_read)
theorem infoVi:(Tryz.prog.info? 58).map (fun i=>(i.zero,i.size,i.bytes)) = some (some (.agg #[.int .i64 0,.string ByteArray.empty,.bool false,.int .i64 0,.string ByteArray.empty]),5,56):=by kernel_rfl
theorem vcells_app (l m:List Vi):vcells (l ++ m) = vcells l ++ vcells m:=by unfold vcells; rw [List.flatMap_append]
theorem vcells_one (l:List Vi):∀ u ∈ vcells l,u.oneCell' = true:=by
 intro u hu
 unfold vcells at hu
 obtain ⟨x,_,hu⟩:=List.mem_flatMap.1 hu
 unfold vcell at hu
 simp only [List.mem_cons,List.not_mem_nil,or_false] at hu
 rcases hu with rfl | rfl | rfl | rfl | rfl <;> rfl
theorem own_src {w:World} {B:Nat} {v:Value} {n:Nat} {xs:List Value} (h:w.ownsRow B 58 5 v n xs) (h1:∀ u ∈ xs,u.oneCell' = true):Src Tryz.prog 5 46 v n xs w:=by
 have hl:=h.1
 rcases Nat.eq_zero_or_pos n with h0 | h0
 ·subst h0
  rw [Nat.zero_mul] at hl
  have hx:=List.eq_nil_of_length_eq_zero hl
  subst hx
  obtain ⟨a,cap,rfl,_⟩:=Rl.own_shape h
  cases a with
  | none=>exact Src.ofNil w Tryz.underlying46 cap
  | some a=>exact Src.ofSlice w Tryz.underlying46 a 0 cap [] (by simp) (fun j u hj=>by simp at hj) (fun u hu=>by cases hu)
 ·obtain ⟨g,cap,rfl,_⟩:=Rl.own_slice h h0
  refine Src.ofSlice w Tryz.underlying46 ⟨g,0,none⟩ n cap xs hl (fun j u hj=>?_) h1
  have e:(⟨g,0,none⟩:Addr).add j = ⟨g,j,none⟩:=by cases j <;> simp [Addr.add]
  rw [e]
  exact Rl.own_cell h hj
theorem append_row {w:World} {ops:Array Oper} {rest:List Oper} {o:Oper} {a:Act} {Q:Exit → Act → World → Prop} (hgd:o.guard = none) (s x:Operand)
  (ho:o.op = .call { callee:=.builtin .append,args:=#[s,x],argTypes:=#[46,46] })
  (B:Nat) (v:Value) (n:Nat) (xs:List Value) (hv:a.eval s = v) (hown:w.ownsRow B 58 5 v n xs) (B':Nat) (u:Value) (m:Nat) (ys:List Value) (hx:a.eval x = u) (hs:w.ownsRow B' 58 5 u m ys) (h1:∀ u ∈ ys,u.oneCell' = true) (hn:n + m ≤ 70000) (hB:B ≤ w.heap.size)
  (h:∀ v' w',w'.ownsRow B 58 5 v' (n + m) (xs ++ ys) → w.grownBy w' v.ownBlock → wpList Tryz.prog ops Q rest (a.put o.dst v') w'):wpList Tryz.prog ops Q (o :: rest) a w:=by
 obtain ⟨i0,hi,hz0,hz1,hz2⟩:=info_parts infoVi
 have hmul:(n + m) * 56 ≤ 70000 * 56:=Nat.mul_le_mul_right _ hn
 exact Own.wpList_append_src hgd s x 46 46 ho B 58 i0 _ 5 56 Tryz.underlying46 hi hz0 hz1 hz2 rfl v n xs hv hown u m ys hx (own_src hs h1) (by simp only [maxLen]; omega) (by omega) hB h
set_option maxRecDepth 100000 in
set_option maxHeartbeats 8000000 in
theorem unmet_any (v1 v2:Value) (s:List En) (cs:List (List At)) (nm:Bs) (pr:Bool) (w:World) (h:Ens w v1 s) (hc:Clss w v2 cs) (hL:LimS s) (hC:LimC cs) (hv:Vars w) (hcs:cs.length ≤ 20) :
  Calls Tryz.prog 58 #[v1,v2,.agg #[.int .i64 1,.string (S nm),.bool pr,.int .i64 0,.string ⟨#[]⟩]] w fun e w'=>∃ v',e = .returned v' ∧ w'.ownsRow w.heap.size 58 5 v' (unm s cs nm pr).length (vcells (unm s cs nm pr)) ∧ Below w.heap.size w w':=by
 obtain ⟨sa,scap,es⟩:=h.shape
 obtain ⟨ca,ccap,ec⟩:=hc.shape
 obtain ⟨n,hn⟩:∃ n,cs.length = n:=⟨_,rfl⟩
 rw [hn] at ec hcs
 have HN:=Lib.hid hn
 have hU:unm s cs nm pr = unmN s cs nm pr n:=by unfold unm; rw [hn]
 rw [hU]
 have hb1:=(Below.refl w.heap.size w).alloc (Nat.le_refl _) (.cells #[.int .i64 1,.string (S nm),.bool pr,.int .i64 0,.string ⟨#[]⟩] 58)
 have i1:=Blk.Is.new w 58 #[.int .i64 1,.string (S nm),.bool pr,.int .i64 0,.string ⟨#[]⟩]
 have hsz:(w.alloc (.cells #[.int .i64 1,.string (S nm),.bool pr,.int .i64 0,.string ⟨#[]⟩] 58)).heap.size = w.heap.size + 1:=by simp
 obtain ⟨W,hW⟩:∃ W,w.alloc (.cells #[.int .i64 1,.string (S nm),.bool pr,.int .i64 0,.string ⟨#[]⟩] 58) = W:=⟨_,rfl⟩
 rw [hW] at hb1 i1 hsz
 have H:=Lib.hid h
 have HC:=Lib.hid hc
 have HL:=Lib.hid hL
 have HLC:=Lib.hid hC
 have HV:=Lib.hid hv
 have HB1:=Lib.hid hb1
 have I1:=Lib.hid i1
 have HSZ:=Lib.hid hsz
 obtain ⟨NM,hNM⟩:∃ NM,S nm = NM:=⟨_,rfl⟩
 rw [hNM] at hW I1
 rw [hNM]
 have HNM:=Lib.hid hNM
 generalize s.length = sn at es
 subst es ec
 have hu:=hW
 clear hn hU h hc hL hC hv hb1 i1 hsz hW hNM
 go_enter Tryz.func58,Tryz.ntmps58
 go_wp2_with fail
 clear hu
 go_loopg [7,12] n (fun gf s7 s12 wx=>∃ (k m:Nat) (ra:Option Addr) (rc:Nat) (XS:List Value) (z:Int),s7 = .slice ra m rc ∧ s12 = .int .i64 k ∧ Hid (wx.ownsRow (w.heap.size + 1) 58 5 (.slice ra m rc) m XS) ∧ Hid (m = (unmN s cs nm pr k).length ∧ XS = vcells (unmN s cs nm pr k)) ∧ Hid (Blk.Is wx w.heap.size 58 #[.int .i64 1,.string NM,.bool pr,.int .i64 z,.string ⟨#[]⟩]) ∧ Hid (Below w.heap.size w wx) ∧ Hid (w.heap.size + 1 ≤ wx.heap.size) ∧ k ≤ n ∧ n ≤ k + gf)
 case atStart=>exact ⟨0,0,none,0,[],0,rfl,rfl,Lib.hid (World.ownsRow_nil _ _ _ _),Lib.hid ⟨rfl,rfl⟩,I1,HB1,Lib.hid (Nat.le_of_eq HSZ.out.symm),by omega,by omega⟩
 case round =>
  obtain ⟨k,m,ra,rc,XS,z,rfl,rfl,HO,HE,HI,HB,HZ,hkn,hfu⟩:=hrel
  by_cases hlt:k < n
  ·obtain ⟨g',rfl⟩:∃ g',gk = g' + 1:=⟨gk - 1,by omega⟩
   have hlt':(k:Int) < (n:Int):=by omega
   have hk0:(0:Int) ≤ k:=by omega
   have hkl:k < cs.length:=by rw [HN.out]; exact hlt
   have hBw:Below w.heap.size w wr:=HB.out
   obtain ⟨_,a',cap',e1,_,hcells⟩:=HC.out.below hBw
   rw [HN.out] at e1
   simp only [Value.slice.injEq,true_and] at e1
   obtain ⟨rfl,rfl⟩:=e1
   obtain ⟨kb,off,rfl,hat⟩:=hcells (by omega)
   obtain ⟨u,z0,hA⟩:=hat k hkl
   rw [Nat.one_mul] at z0
   have hlim:=HLC.out _ (mem_getD (z:=[]) hkl)
   have cm:=isMet_any _ u s _ wr (H.out.below hBw) hA HL.out hlim (HV.out.on hBw)
   obtain ⟨ua,uc,rfl⟩:=hA.shape
   have hu1:unm1 s cs nm pr k = if metB s (cs.getD k []) = true then [] else [(1,nm,pr,(k:Int),[])]:=rfl
   have hsucc:=unmN_succ s cs nm pr k
   rw [hu1] at hsucc
   obtain ⟨um,hum⟩:∃ um,(cs.getD k []).length = um:=⟨_,rfl⟩
   rw [hum] at z0 cm
   have hbox0:=HI.out.at (i:=3) rfl
   have HS:=Lib.hid hsucc
   clear hcells hat hA hum hlim hBw hkl hu1 hsucc
   cases hm:metB s (cs.getD k []) with
   | true =>
    rw [hm] at cm
    have HE2:Hid (m = (unmN s cs nm pr (k + 1)).length ∧ XS = vcells (unmN s cs nm pr (k + 1))):=by
     rw [HS.out,hm,if_pos rfl,List.append_nil]; exact HE
    clear HE HS hm hbox0
    go_wp2_with fail
    refine cm.mono ?_
    rintro e w4 ⟨rfl,k4⟩
    have O4:=Lib.hid (Own.owns_below HO.out k4)
    have I4:=Lib.hid (Rl.is_on HI.out k4)
    have B4:=Lib.hid (HB.out.trans (k4.mono HB.out.size))
    have Z4:=Lib.hid (Nat.le_trans HZ.out k4.size)
    clear cm k4 HO HI HB HZ
    go_wp2_with fail
    go_roundg g'
    case measure=>omega
    case rel=>exact ⟨k + 1,m,ra,rc,XS,z,rfl,by go_num,O4,HE2,I4,B4,Z4,by omega,by omega⟩
   | false =>
    rw [hm] at cm
    have HE2:Hid (m + 1 = (unmN s cs nm pr (k + 1)).length ∧ XS ++ [.int .i64 1,.string NM,.bool pr,.int .i64 (k:Int),.string ⟨#[]⟩] = vcells (unmN s cs nm pr (k + 1))):=by
     rw [HS.out,hm,if_neg (by simp),List.length_append,vcells_app,← HE.out.1,← HE.out.2,← HNM.out]
     exact ⟨rfl,rfl⟩
    have hk70:m + 1 ≤ 70000:=by
     have h1:=HE.out.1
     have h2:=unm_len s cs nm pr k
     omega
    clear HE HS hm hbox0
    go_wp2_with fail
    refine cm.mono ?_
    rintro e w4 ⟨rfl,k4⟩
    have o4:=Own.owns_below HO.out k4
    have i4:=Rl.is_on HI.out k4
    have b4:=HB.out.trans (k4.mono HB.out.size)
    have z4:=Nat.le_trans HZ.out k4.size
    have q1:=i4.at (i:=3) rfl
    have q2:=i4.free 3
    have i5:Blk.Is (w4.setCell ⟨w.heap.size,3,none⟩ (.int .i64 (k:Int))) w.heap.size 58 #[.int .i64 1,.string NM,.bool pr,.int .i64 (k:Int),.string ⟨#[]⟩]:=i4.set 3 (.int .i64 (k:Int))
    have b5:=b4.setCell (p:=⟨w.heap.size,3,none⟩) (Nat.le_refl _) (.int .i64 (k:Int))
    have z5:w.heap.size + 1 ≤ (w4.setCell ⟨w.heap.size,3,none⟩ (.int .i64 (k:Int))).heap.size:=by rw [show (w4.setCell ⟨w.heap.size,3,none⟩ (.int .i64 (k:Int))).heap.size = w4.heap.size by simp]; exact z4
    have ch5:Blk.Chg (fun q=>q = w.heap.size) w4 (w4.setCell ⟨w.heap.size,3,none⟩ (.int .i64 (k:Int))):=(Blk.Chg.refl _ _).setAt rfl
    have o5:=ch5.owns o4 fun b hb e=>by have:=(Rl.own_lt o4 hb).1; omega
    obtain ⟨W5,hW5⟩:∃ W',w4.setCell ⟨w.heap.size,3,none⟩ (.int .i64 (k:Int)) = W':=⟨_,rfl⟩
    rw [hW5] at i5 b5 z5 o5
    have p0:=i5.at (i:=0) rfl
    have p1:=i5.at (i:=1) rfl
    have p2:=i5.at (i:=2) rfl
    have p3:=i5.at (i:=3) rfl
    have p4:=i5.at (i:=4) rfl
    have hb6:=(Below.refl W5.heap.size W5).alloc (Nat.le_refl _) (.cells #[.int .i64 1,.string NM,.bool pr,.int .i64 (k:Int),.string ⟨#[]⟩] 58)
    have i6:=Blk.Is.new W5 58 #[.int .i64 1,.string NM,.bool pr,.int .i64 (k:Int),.string ⟨#[]⟩]
    obtain ⟨W6,hW6⟩:∃ W',W5.alloc (.cells #[.int .i64 1,.string NM,.bool pr,.int .i64 (k:Int),.string ⟨#[]⟩] 58) = W':=⟨_,rfl⟩
    rw [hW6] at hb6 i6
    have O6:=Lib.hid (Own.owns_below o5 hb6)
    have I6:=Lib.hid (Rl.is_on i5 hb6)
    have B6:=Lib.hid (b5.trans (hb6.mono b5.size))
    have Z6:=Lib.hid (Nat.le_trans z5 hb6.size)
    have HC6:=Lib.hid i6
    have HW6:=Lib.hid hW6
    have K70:=Lib.hid hk70
    have hu:=hW5
    clear cm k4 HO HI HB HZ o4 i4 b4 z4 i5 b5 z5 ch5 o5 hW5 hb6 i6 hW6 hk70
    go_wp2_with (at_builtin; rw [HW6.out]; refine Rl.append_el Tryz.underlying46 infoVi rfl (by decide) rfl (.tmp 23) (.tmp 25) rfl (w.heap.size + 1) (.slice ra m rc) m XS rfl O6.out W5.heap.size 1 rfl [.int .i64 1,.string NM,.bool pr,.int .i64 (k:Int),.string ⟨#[]⟩] rfl (fun j u hj=>HC6.out.at (by rw [← Array.getElem?_toList]; exact hj)) (fun u hu=>by simp only [List.mem_cons,List.not_mem_nil,or_false] at hu; rcases hu with rfl | rfl | rfl | rfl | rfl <;> rfl) K70.out Z6.out ?_; intro v' w7 h7 g7; have c7:=Blk.Chg.grown (S:=fun q=>Value.ownBlock (.slice ra m rc) = some q) (Blk.Chg.refl _ W6) g7 (fun q hq _=>hq); have i7:=c7.is I6.out (fun e=>by have:=(Rl.own_lt O6.out e).1; omega); have b7:=Own.below_grown B6.out (Rl.own_mono O6.out (Nat.le_succ w.heap.size)) g7 (Nat.le_of_succ_le Z6.out); have z7:=Nat.le_trans Z6.out c7.size; obtain ⟨a7,r7,rfl,_⟩:=Rl.own_shape h7; have O7:=Lib.hid h7; have I7:=Lib.hid i7; have B7:=Lib.hid b7; have Z7:=Lib.hid z7; clear h7 g7 c7 i7 b7 z7)
    clear hu q1 q2 p0 p1 p2 p3 p4
    go_roundg g'
    case measure=>omega
    case rel=>exact ⟨k + 1,m + 1,a7,r7,_,(k:Int),rfl,by go_num,O7,HE2,I7,B7,Z7,by omega,by omega⟩
  ·have hge:¬ (k:Int) < (n:Int):=by omega
   obtain rfl:k = n:=by omega
   have OF:Hid (wr.ownsRow w.heap.size 58 5 (.slice ra m rc) (unmN s cs nm pr k).length (vcells (unmN s cs nm pr k))):=by
    have h:=Rl.own_mono HO.out (Nat.le_succ w.heap.size)
    rw [HE.out.2] at h
    rw [← HE.out.1]
    exact h
   clear HE
   go_wp2_with fail
   go_ret
   exact ⟨_,rfl,OF.out,HB.out⟩
end Sa
end Go.Proofs.YtgpcilepkmckeaaGreatDoor

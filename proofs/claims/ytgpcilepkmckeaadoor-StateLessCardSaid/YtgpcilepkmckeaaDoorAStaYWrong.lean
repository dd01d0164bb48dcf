/-
The reference's Wrong.
-/
import Derived.Test.YtgpcilepkmckeaaDoorAStaYMet
import Derived.Test.YtgpcilepkmckeaaDoorAStaCla
import Derived.Test.YtgpcilepkmckeaaDoorARecBare
namespace Go.Proofs.YtgpcilepkmckeaaDoor
open Go.RowKit
set_option linter.unusedSimpArgs false
set_option linter.unusedVariables false
namespace Sa
open Ver (Bs li li_len S S_self S_size S_li)
open Rl (At Pv Ats Pvs Clss Slc LimA LimP LimC Vars aV nA mem_getD)
open Rc (Pk nPk PkV PkB PkC Has En nEn Ens EnC CAt Pks pk_read en_read Acc In in_low append_big infoPk)
open Ix (sat LimAt ysat_any)
theorem done_snoc (s:List En) (k:Nat) (hk:k < s.length):done (s.take (k + 1)) = done (s.take k) ++ (if (s.getD k nEn).cfg = true then [(s.getD k nEn).pk] else []):=by
 have e:s.take (k + 1) = s.take k ++ [s.getD k nEn]:=by
  rw [List.getD_eq_getElem?_getD,List.getElem?_eq_getElem hk,Option.getD_some,List.take_append_getElem hk]
 unfold done
 rw [e,List.filter_append,List.map_append]
 congr 1
 rw [List.filter_cons]
 split <;> rfl
theorem done_len (s:List En) (k:Nat):(done (s.take k)).length ≤ k:=by
 unfold done
 rw [List.length_map]
 refine Nat.le_trans (List.length_filter_le _ _) ?_
 rw [List.length_take]; omega
structure Four (n1 n2 n4 n5:Nat) (p:Pk):Prop where
 pre:n1 = p.pre.length
 dep:n2 = p.dep.length
 con:n4 = p.con.length
 brk:n5 = p.brk.length
structure FewQ (p:Pk):Prop where
 pre:p.pre.length ≤ 20
 dep:p.dep.length ≤ 20
 con:p.con.length ≤ 50
 brk:p.brk.length ≤ 50
set_option maxRecDepth 100000 in
set_option maxHeartbeats 40000000 in
theorem ywrong_any (v1:Value) (s:List En) (w:World) (h:Ens w v1 s) (hL:LimS s) (hF:Few s) :
  Calls Tryd.prog 10 #[v1] w fun e w'=>∃ v',e = .returned v' ∧ w'.ownsRow w.heap.size 43 5 v' (Sa.wr s).length (vcells (Sa.wr s)) ∧ Below w.heap.size w w':=by
 obtain ⟨sa,scap,rfl⟩:=h.shape
 have HL:=Lib.hid hL
 have HF:=Lib.hid hF
 obtain ⟨n,hn⟩:∃ n,s.length = n:=⟨_,rfl⟩
 have H:=Lib.hid (show Ens w (.slice sa n scap) s by rw [← hn]; exact h)
 have HN:=Lib.hid hn
 have hU:Sa.wr s = wrN s n:=by unfold Sa.wr; rw [hn]
 rw [hU,hn]
 have hn26:n ≤ 26:=by rw [← hn]; exact hF.len
 have hn9:(Tryd.prog.info? 36).map (·.size) = some 9:=by kernel_rfl
 clear hn hU h hL hF
 go_enter Tryd.func10,Tryd.ntmps10
 go_wp2_with fail
 go_loopg [3,24] n (fun gf s3 s24 wx=>∃ (k q:Nat) (pa:Option Addr) (pc:Nat),s3 = .slice pa q pc ∧ s24 = .int .i64 k ∧ Hid (Acc PkC 9 36 w.heap.size 0 wx (.slice pa q pc) (done (s.take k))) ∧ Hid (q = (done (s.take k)).length) ∧ Hid (Below w.heap.size w wx) ∧ k ≤ n ∧ n ≤ k + gf)
 case atStart=>exact ⟨0,0,none,0,rfl,rfl,Lib.hid (Acc.nil _ _ _ _ _ _),Lib.hid rfl,Lib.hid (Below.refl _ _),by omega,by omega⟩
 case round =>
  obtain ⟨k,q,pa,pc,rfl,rfl,HA,HQL,HB,hkn,hfu⟩:=hrel
  by_cases hlt:k < n
  ·obtain ⟨g',rfl⟩:∃ g',gk = g' + 1:=⟨gk - 1,by omega⟩
   have hlt':(k:Int) < (n:Int):=by omega
   have hk0:(0:Int) ≤ k:=by omega
   have hkl:k < s.length:=by rw [HN.out]; exact hlt
   obtain ⟨_,a',cap',e1,_,hcells⟩:=H.out
   rw [HN.out] at e1
   simp only [Value.slice.injEq,true_and] at e1
   obtain ⟨rfl,rfl⟩:=e1
   obtain ⟨kb,off,rfl,hcl2⟩:=hcells (by omega)
   obtain ⟨a1,n1,c1,a2,n2,c2,a3,n3,c3,a4,n4,c4,a5,n5,c5,a6,n6,c6,⟨x0,x1,x2,x3,x4,x5,x6,x7,x8,x9,x10⟩,hh⟩:=en_read (hcl2 k hkl)
   rw [Nat.mul_comm 11 k] at x0 x1 x2 x3 x4 x5 x6 x7 x8 x9 x10
   replace x0:=Rl.cell_on x0 HB.out
   replace x1:=Rl.cell_on x1 HB.out
   replace x2:=Rl.cell_on x2 HB.out
   replace x3:=Rl.cell_on x3 HB.out
   replace x4:=Rl.cell_on x4 HB.out
   replace x5:=Rl.cell_on x5 HB.out
   replace x6:=Rl.cell_on x6 HB.out
   replace x7:=Rl.cell_on x7 HB.out
   replace x8:=Rl.cell_on x8 HB.out
   replace x9:=Rl.cell_on x9 HB.out
   replace x10:=Rl.cell_on x10 HB.out
   have hsn:=done_snoc s k hkl
   have hql:q ≤ 26:=by
    have h1:=HQL.out
    have h2:=done_len s k
    omega
   obtain ⟨x,hx⟩:∃ x,s.getD k nEn = x:=⟨_,rfl⟩
   rw [hx] at x0 x1 x8 x9 x10 hh hsn
   have HSN:=Lib.hid hsn
   have hb2:=(Below.refl wr.heap.size wr).alloc (Nat.le_refl _) (.cells #[.string (S x.pk.nm),.string (S x.pk.vs),.slice a1 n1 c1,.slice a2 n2 c2,.slice a3 n3 c3,.slice a4 n4 c4,.slice a5 n5 c5,.slice a6 n6 c6,.bool x.pk.ess,.bool x.cfg,.bool x.hld] 38)
   have i2:=Blk.Is.new wr 38 #[.string (S x.pk.nm),.string (S x.pk.vs),.slice a1 n1 c1,.slice a2 n2 c2,.slice a3 n3 c3,.slice a4 n4 c4,.slice a5 n5 c5,.slice a6 n6 c6,.bool x.pk.ess,.bool x.cfg,.bool x.hld]
   obtain ⟨bx,hbx⟩:∃ bx,wr.heap.size = bx:=⟨_,rfl⟩
   obtain ⟨W2,hW2⟩:∃ W2,wr.alloc (.cells #[.string (S x.pk.nm),.string (S x.pk.vs),.slice a1 n1 c1,.slice a2 n2 c2,.slice a3 n3 c3,.slice a4 n4 c4,.slice a5 n5 c5,.slice a6 n6 c6,.bool x.pk.ess,.bool x.cfg,.bool x.hld] 38) = W2:=⟨_,rfl⟩
   rw [hW2] at hb2 i2
   rw [hbx] at i2
   have acc2:=HA.out.on hb2
   have hB2:=HB.out.trans (hb2.mono HB.out.size)
   have y9:=i2.at (i:=9) rfl
   have hu:=hW2
   cases hcf:x.cfg with
   | false =>
    rw [hcf] at x9 y9 hu HSN
    have ACC:Hid (Acc PkC 9 36 w.heap.size 0 W2 (.slice pa q pc) (done (s.take (k + 1)))):=Lib.hid (by
     rw [HSN.out,if_neg (by simp),List.append_nil]; exact acc2)
    have HQ2:Hid (q = (done (s.take (k + 1))).length):=Lib.hid (by
     rw [HSN.out,if_neg (by simp),List.append_nil]; exact HQL.out)
    have HB2:=Lib.hid hB2
    clear hcells hcl2 hx hb2 i2 hW2 acc2 hB2 hh hsn HSN HA HB HQL hcf hkl
    go_wp2_with fail
    go_roundg g'
    case measure=>omega
    case rel=>exact ⟨k + 1,q,pa,pc,rfl,by go_num,ACC,HQ2,HB2,by omega,by omega⟩
   | true =>
    rw [hcf] at x9 y9 hu HSN hW2 i2
    have HS2:Hid (done (s.take (k + 1)) = done (s.take k) ++ [x.pk]):=Lib.hid (by rw [HSN.out,if_pos rfl])
    clear HSN
    have hb3:=(Below.refl W2.heap.size W2).alloc (Nat.le_refl _) (.cells #[.string (S x.pk.nm),.string (S x.pk.vs),.slice a1 n1 c1,.slice a2 n2 c2,.slice a3 n3 c3,.slice a4 n4 c4,.slice a5 n5 c5,.slice a6 n6 c6,.bool x.pk.ess] 36)
    have i3:=Blk.Is.new W2 36 #[.string (S x.pk.nm),.string (S x.pk.vs),.slice a1 n1 c1,.slice a2 n2 c2,.slice a3 n3 c3,.slice a4 n4 c4,.slice a5 n5 c5,.slice a6 n6 c6,.bool x.pk.ess]
    obtain ⟨W3,hW3⟩:∃ W3,W2.alloc (.cells #[.string (S x.pk.nm),.string (S x.pk.vs),.slice a1 n1 c1,.slice a2 n2 c2,.slice a3 n3 c3,.slice a4 n4 c4,.slice a5 n5 c5,.slice a6 n6 c6,.bool x.pk.ess] 36) = W3:=⟨_,rfl⟩
    rw [hW3] at hb3 i3
    have acc3:=acc2.on hb3
    have hB3:=hB2.trans (hb3.mono hB2.size)
    have hin:In 0 w.heap.size w (fun u=>PkC u [.string (S x.pk.nm),.string (S x.pk.vs),.slice a1 n1 c1,.slice a2 n2 c2,.slice a3 n3 c3,.slice a4 n4 c4,.slice a5 n5 c5,.slice a6 n6 c6,.bool x.pk.ess] x.pk):=in_low fun u hu=>⟨_,_,_,_,_,_,rfl,hh.below hu⟩
    have hin3:=hin.on (Blk.Chg.ofBelow' hB3)
    have rg:W2.rangeAt bx 0 [.string (S x.pk.nm),.string (S x.pk.vs),.slice a1 n1 c1,.slice a2 n2 c2,.slice a3 n3 c3,.slice a4 n4 c4,.slice a5 n5 c5,.slice a6 n6 c6,.bool x.pk.ess]:=fun j u hj=>by
     rw [Nat.zero_add]
     refine i2.at ?_
     have hjl:j < 9:=(List.getElem?_eq_some_iff.1 hj).1
     have hj2:([.string (S x.pk.nm),.string (S x.pk.vs),.slice a1 n1 c1,.slice a2 n2 c2,.slice a3 n3 c3,.slice a4 n4 c4,.slice a5 n5 c5,.slice a6 n6 c6,.bool x.pk.ess] ++ [.bool true,.bool x.hld])[j]? = some u:=by rw [List.getElem?_append_left hjl]; exact hj
     rw [← Array.getElem?_toList]; exact hj2
    have hlow:∀ g,Value.ownBlock (.slice pa q pc) = some g → g < 0 ∨ w.heap.size ≤ g:=fun g hg=>by
     obtain ⟨_,ho⟩:=HA.out.own
     exact .inr (Rl.own_lt ho hg).1
    have own3:∃ xs,W3.ownsRow w.heap.size 36 9 (.slice pa q pc) q xs:=by
     have:=acc3.own
     rwa [← HQL.out] at this
    have AC3:=Lib.hid acc3
    have IN3:=Lib.hid hin3
    have LO:=Lib.hid hlow
    have B3:=Lib.hid hB3
    have I3:=Lib.hid i3
    have OW:=Lib.hid own3
    have RG:=Lib.hid rg
    have HW3:=Lib.hid hW3
    have SZ3:=Lib.hid hB3.size
    have K1:Hid ((q + 1) * 184 ≤ 140737488355328):=Lib.hid (by omega)
    have K2:Hid (q + 1 ≤ 4611686018427387904):=Lib.hid (by omega)
    clear hcells hcl2 hx hb2 i2 hW2 acc2 hB2 hsn hb3 i3 acc3 hin hin3 rg hlow hB3 hW3 own3 hh HA HB hcf hkl
    go_wp2_with (first | (at_builtin; rw [HW3.out]; refine append_big Tryd.underlying24 infoPk rfl rfl (.tmp 30) (.tmp 33) rfl w.heap.size (.slice pa q pc) q rfl OW.out W2.heap.size 1 rfl [.string (S x.pk.nm),.string (S x.pk.vs),.slice a1 n1 c1,.slice a2 n2 c2,.slice a3 n3 c3,.slice a4 n4 c4,.slice a5 n5 c5,.slice a6 n6 c6,.bool x.pk.ess] rfl (fun j u hj=>I3.out.at (by rw [← Array.getElem?_toList]; exact hj)) (fun u hu=>by simp only [List.mem_cons,List.not_mem_nil,or_false] at hu; rcases hu with rfl | rfl | rfl | rfl | rfl | rfl | rfl | rfl | rfl <;> rfl) K1.out K2.out SZ3.out ?_; intro v' w9 h2 h3 h4; have acc9:=AC3.out.more (cs:=[.string (S x.pk.nm),.string (S x.pk.vs),.slice a1 n1 c1,.slice a2 n2 c2,.slice a3 n3 c3,.slice a4 n4 c4,.slice a5 n5 c5,.slice a6 n6 c6,.bool x.pk.ess]) rfl IN3.out SZ3.out LO.out (Nat.zero_le _) (by rw [← HQL.out]; exact h2) h3 h4; obtain ⟨a9,c9,e9⟩:=acc9.shape; rw [List.length_append,← HQL.out,List.length_singleton] at e9; subst e9; have hb9:=Own.below_grown B3.out (Classical.choose_spec OW.out) h3 SZ3.out; have AC9:=Lib.hid acc9; have HB9:=Lib.hid hb9; clear acc9 hb9 h2 h3 h4 AC3 IN3 LO B3 I3 OW RG HW3) | (refine BigFrame.wpList_want rfl fun KK hKK=>wp_load_mid 36 (.tmp 31) rfl bx 0 rfl [.string (S x.pk.nm),.string (S x.pk.vs),.slice a1 n1 c1,.slice a2 n2 c2,.slice a3 n3 c3,.slice a4 n4 c4,.slice a5 n5 c5,.slice a6 n6 c6,.bool x.pk.ess] _ RG.out Tryd.underlying36 rfl hn9 (hKK _ _ ?_)))
    go_roundg g'
    case measure=>omega
    case rel =>
     refine ⟨k + 1,q + 1,a9,c9,rfl,by go_num,Lib.hid ?_,Lib.hid ?_,HB9,by omega,by omega⟩
     ·rw [HS2.out]; exact AC9.out
     ·rw [HS2.out,List.length_append,← HQL.out]; rfl
  ·obtain rfl:n = k:=by omega
   have hge:¬ (n:Int) < (n:Int):=by omega
   have hacc:=HA.out
   rw [List.take_of_length_le (by rw [HN.out]; exact Nat.le_refl _)] at hacc
   have hql:=HQL.out
   rw [List.take_of_length_le (by rw [HN.out]; exact Nat.le_refl _)] at hql
   have hdn:Pks wr (.slice pa q pc) (done s):=Acc.slc nPk hacc (by rw [← hql]; have h2:=done_len s n; rw [List.take_of_length_le (by rw [HN.out]; exact Nat.le_refl _)] at h2; omega)
   obtain ⟨wd,hwd⟩:∃ wd,wr = wd:=⟨_,rfl⟩
   rw [hwd] at hdn HB ⊢
   have HDN:=Lib.hid hdn
   have HDL:Hid (∀ p ∈ done s,p.Lim):=Lib.hid fun p hp=>by
    unfold done at hp
    obtain ⟨x,hx,rfl⟩:=List.mem_map.1 hp
    exact HL.out x (List.mem_filter.1 hx).1
   have HD:Hid (Ens wd (.slice sa n scap) s):=Lib.hid (H.out.below HB.out)
   have HW0:=HB
   have HLEN:Hid (s.length ≤ 26):=Lib.hid HF.out.len
   clear hwd hacc hql hdn HA HQL HB H hkn hfu hlt
   have H:=HD
   clear HD
   go_wp2_with fail
   clear hge
   go_loopg [6,38] n (fun gf s6 s38 wx=>∃ (i m:Nat) (ra:Option Addr) (rc:Nat) (XS:List Value),s6 = .slice ra m rc ∧ s38 = .int .i64 i ∧ Hid (wx.ownsRow wd.heap.size 43 5 (.slice ra m rc) m XS) ∧ Hid (m = (wrN s i).length ∧ XS = vcells (wrN s i)) ∧ Hid (Below wd.heap.size wd wx) ∧ i ≤ n ∧ n ≤ i + gf)
   case atStart=>exact ⟨0,0,none,0,[],rfl,rfl,Lib.hid (World.ownsRow_nil _ _ _ _),Lib.hid ⟨rfl,rfl⟩,Lib.hid (Below.refl _ _),by omega,by omega⟩
   case round =>
    obtain ⟨i,m,ra,rc,XS,rfl,rfl,O,E,B,hin,hfu⟩:=hrel
    by_cases hlt:i < n
    ·obtain ⟨g',rfl⟩:∃ g',gk = g' + 1:=⟨gk - 1,by omega⟩
     have hlt':(i:Int) < (n:Int):=by omega
     have hi0:(0:Int) ≤ i:=by omega
     have his:i < s.length:=by rw [HN.out]; exact hlt
     obtain ⟨_,a',cap',e1,_,hcells⟩:=H.out.below B.out
     rw [HN.out] at e1
     simp only [Value.slice.injEq,true_and] at e1
     obtain ⟨rfl,rfl⟩:=e1
     obtain ⟨kb,off,rfl,hat⟩:=hcells (by omega)
     obtain ⟨a1,n1,c1,a2,n2,c2,a3,n3,c3,a4,n4,c4,a5,n5,c5,a6,n6,c6,⟨x0,x1,x2,x3,x4,x5,x6,x7,x8,x9,x10⟩,hh⟩:=en_read (hat i his)
     rw [Nat.mul_comm 11 i] at x0 x1 x2 x3 x4 x5 x6 x7 x8 x9 x10
     have hmem:=mem_getD (z:=nEn) his
     have hlim:=HL.out _ hmem
     have f1:=HF.out.pre _ hmem
     have f2:=HF.out.dep _ hmem
     have f3:=HF.out.con _ hmem
     have hpre:=wrN_len HF.out (k:=i) (by omega)
     have hws:wrN s (i + 1) = wrN s i ++ (unm s (s.getD i nEn).pk.pre (s.getD i nEn).pk.nm true ++ ((if (s.getD i nEn).cfg = true then unm s (s.getD i nEn).pk.dep (s.getD i nEn).pk.nm false else []) ++ (cla s i (s.getD i nEn).pk.con 2 ++ cla s i (s.getD i nEn).pk.brk 3))):=wrN_succ s i
     -- the lists as they lie at the loops' start
     obtain ⟨_,a0,cap0,e0,_,hcells0⟩:=H.out
     rw [HN.out] at e0
     simp only [Value.slice.injEq,true_and] at e0
     obtain ⟨rfl,rfl⟩:=e0
     obtain ⟨kb0,off0,e0,hat0⟩:=hcells0 (by omega)
     simp only [Option.some.injEq,Addr.mk.injEq,and_true] at e0
     obtain ⟨rfl,rfl⟩:=e0
     obtain ⟨A1,N1,C1,A2,N2,C2,A3,N3,C3,A4,N4,C4,A5,N5,C5,A6,N6,C6,⟨X0,X1,X2,X3,X4,X5,X6,X7,X8,X9,X10⟩,hh0⟩:=en_read (hat0 i his)
     rw [Nat.mul_comm 11 i] at X2 X3 X4 X5 X6 X7
     have same:∀ {o:Nat} {v v':Value},wd.cell? ⟨kb,o,none⟩ = some v → wr.cell? ⟨kb,o,none⟩ = some v' → v = v':=fun h1 h2=>by
      rw [Rl.cell_on h1 B.out] at h2
      exact Option.some.inj h2
     obtain ⟨rfl,rfl,rfl⟩:=Value.slice.inj (same X2 x2).symm
     obtain ⟨rfl,rfl,rfl⟩:=Value.slice.inj (same X3 x3).symm
     obtain ⟨rfl,rfl,rfl⟩:=Value.slice.inj (same X4 x4).symm
     obtain ⟨rfl,rfl,rfl⟩:=Value.slice.inj (same X5 x5).symm
     obtain ⟨rfl,rfl,rfl⟩:=Value.slice.inj (same X6 x6).symm
     obtain ⟨rfl,rfl,rfl⟩:=Value.slice.inj (same X7 x7).symm
     clear X0 X1 X2 X3 X4 X5 X6 X7 X8 X9 X10 same hat0 hcells0 hcells hat
     obtain ⟨x,hx⟩:∃ x,s.getD i nEn = x:=⟨_,rfl⟩
     rw [hx] at x0 x1 x8 x9 x10 hh0 hlim f1 f2 f3 hws
     clear hh
     have HXX:=Lib.hid hx
     have HH:=Lib.hid hh0
     have HLX:=Lib.hid hlim
     have PRE:=Lib.hid hpre
     have WSUCC:=Lib.hid hws
     obtain ⟨_,_,e1⟩:=hh0.pre.shape
     obtain ⟨_,_,e2⟩:=hh0.dep.shape
     obtain ⟨_,_,e4⟩:=hh0.con.shape
     obtain ⟨_,_,e5⟩:=hh0.brk.shape
     simp only [Value.slice.injEq] at e1 e2 e4 e5
     have HQ:Hid (Four n1 n2 n4 n5 x.pk):=Lib.hid ⟨e1.2.1,e2.2.1,e4.2.1,e5.2.1⟩
     have FQ:Hid (FewQ x.pk):=Lib.hid ⟨f1,f2,by omega,by omega⟩
     have q1:n1 ≤ 20:=by rw [e1.2.1]; exact f1
     have q2:n2 ≤ 20:=by rw [e2.2.1]; exact f2
     have q4:n4 ≤ 50:=by rw [e4.2.1]; omega
     have q5:n5 ≤ 50:=by rw [e5.2.1]; omega
     have hb2:=(Below.refl wr.heap.size wr).alloc (Nat.le_refl _) (.cells #[.string (S x.pk.nm),.string (S x.pk.vs),.slice a1 n1 c1,.slice a2 n2 c2,.slice a3 n3 c3,.slice a4 n4 c4,.slice a5 n5 c5,.slice a6 n6 c6,.bool x.pk.ess,.bool x.cfg,.bool x.hld] 38)
     have i2:=Blk.Is.new wr 38 #[.string (S x.pk.nm),.string (S x.pk.vs),.slice a1 n1 c1,.slice a2 n2 c2,.slice a3 n3 c3,.slice a4 n4 c4,.slice a5 n5 c5,.slice a6 n6 c6,.bool x.pk.ess,.bool x.cfg,.bool x.hld]
     obtain ⟨bx,hbx⟩:∃ bx,wr.heap.size = bx:=⟨_,rfl⟩
     obtain ⟨V,hV⟩:∃ V,wr.alloc (.cells #[.string (S x.pk.nm),.string (S x.pk.vs),.slice a1 n1 c1,.slice a2 n2 c2,.slice a3 n3 c3,.slice a4 n4 c4,.slice a5 n5 c5,.slice a6 n6 c6,.bool x.pk.ess,.bool x.cfg,.bool x.hld] 38) = V:=⟨_,rfl⟩
     rw [hV] at hb2 i2
     rw [hbx] at i2
     have O2:=Lib.hid (Own.owns_below O.out hb2)
     have B2:=Lib.hid (B.out.trans (hb2.mono B.out.size))
     have I:=Lib.hid i2
     have v0:=i2.at (i:=0) rfl
     have v2:=i2.at (i:=2) rfl
     have hu:=hV
     clear O B
     have O:=O2
     have B:=B2
     clear O2 B2 hb2 i2 hV hx hmem hlim f1 f2 f3 hpre hws hh0 e1 e2 e4 e5 his
     go_wp2_with fail
     clear hu v0 v2 x0 x1 x2 x3 x4 x5 x6 x7 x8 x9 x10 hbx
     go_loopg [6,50] n1 (fun gf s6 sk wx=>∃ (k m:Nat) (ra:Option Addr) (rc:Nat) (XS:List Value),s6 = .slice ra m rc ∧ sk = .int .i64 k ∧ Hid (wx.ownsRow wd.heap.size 43 5 (.slice ra m rc) m XS) ∧ Hid (m = (wrN s i ++ unmN s x.pk.pre x.pk.nm true k).length ∧ XS = vcells (wrN s i ++ unmN s x.pk.pre x.pk.nm true k)) ∧ Hid (Below wd.heap.size wd wx) ∧ Hid (Blk.Is wx bx 38 #[.string (S x.pk.nm),.string (S x.pk.vs),.slice a1 n1 c1,.slice a2 n2 c2,.slice a3 n3 c3,.slice a4 n4 c4,.slice a5 n5 c5,.slice a6 n6 c6,.bool x.pk.ess,.bool x.cfg,.bool x.hld]) ∧ k ≤ n1 ∧ n1 ≤ k + gf)
     case atStart=>exact ⟨0,m,ra,rc,XS,rfl,rfl,O,Lib.hid (by rw [show unmN s x.pk.pre x.pk.nm true 0 = [] from rfl,List.append_nil]; exact E.out),B,I,by omega,by omega⟩
     case round =>
      clear O E B I
      obtain ⟨k,m,ra,rc,XS,rfl,rfl,O,E,B,I,hkn,hfu3⟩:=hrel
      by_cases hlt:k < n1
      ·obtain ⟨g3,rfl⟩:∃ g3,gk = g3 + 1:=⟨gk - 1,by omega⟩
       have hlt':(k:Int) < (n1:Int):=by omega
       have hk0:(0:Int) ≤ k:=by omega
       have hkl:k < x.pk.pre.length:=by rw [← HQ.out.pre]; exact hlt
       obtain ⟨_,a',cap',e1,_,hcells⟩:=HH.out.pre.below B.out
       rw [← HQ.out.pre] at e1
       simp only [Value.slice.injEq,true_and] at e1
       obtain ⟨rfl,rfl⟩:=e1
       obtain ⟨kb,off,rfl,hat⟩:=hcells (by omega)
       obtain ⟨u,z0,hA⟩:=hat k hkl
       rw [Nat.one_mul] at z0
       have hlim:=HLX.out.pre _ (mem_getD (z:=[]) hkl)
       have cm:=ymet_any u _ _ (done s) wr hA (HDN.out.below B.out) HDL.out hlim
       rw [met_done] at cm
       obtain ⟨ua,uc,rfl⟩:=hA.shape
       have hsucc:=unmN_succ s x.pk.pre x.pk.nm true k
       have hu1:unm1 s x.pk.pre x.pk.nm true k = if metB s (x.pk.pre.getD k []) = true then [] else [(1,x.pk.nm,true,(k:Int),[])]:=rfl
       rw [hu1] at hsucc
       obtain ⟨um,hum⟩:∃ um,(x.pk.pre.getD k []).length = um:=⟨_,rfl⟩
       rw [hum] at z0 cm
       have HS:=Lib.hid hsucc
       clear hcells hat hA hum hlim hkl hu1 hsucc
       cases hm:metB s (x.pk.pre.getD k []) with
       | true =>
        rw [hm] at cm
        have HE2:Hid (m = (wrN s i ++ unmN s x.pk.pre x.pk.nm true (k + 1)).length ∧ XS = vcells (wrN s i ++ unmN s x.pk.pre x.pk.nm true (k + 1))):=by
         rw [HS.out,hm,if_pos rfl,List.append_nil]; exact E
        clear E HS hm
        go_wp2_with fail
        refine cm.mono ?_
        rintro e w4 ⟨rfl,k4⟩
        have O4:=Lib.hid (Own.owns_below O.out k4)
        have I4:=Lib.hid (Rl.is_on I.out k4)
        have B4:=Lib.hid (B.out.trans (k4.mono B.out.size))
        clear cm k4 O I B
        go_wp2_with fail
        go_roundg g3
        case measure=>omega
        case rel=>exact ⟨k + 1,m,ra,rc,XS,rfl,by go_num,O4,HE2,B4,I4,by omega,by omega⟩
       | false =>
        rw [hm] at cm
        have HE2:Hid (m + 1 = (wrN s i ++ unmN s x.pk.pre x.pk.nm true (k + 1)).length ∧ XS ++ [.int .i64 1,.string (S x.pk.nm),.bool true,.int .i64 (k:Int),.string ⟨#[]⟩] = vcells (wrN s i ++ unmN s x.pk.pre x.pk.nm true (k + 1))):=Lib.hid (by
         rw [HS.out,hm,if_neg (by simp),← List.append_assoc,List.length_append,vcells_app,← E.out.1,← E.out.2]
         exact ⟨rfl,rfl⟩)
        have K70:Hid (m + 1 ≤ 70000):=Lib.hid (by
         have h1:=E.out.1
         have h2:=unm_len s x.pk.pre x.pk.nm true k
         have h3:=FQ.out.pre
         have h4:=PRE.out
         simp only [List.length_append] at h1
         have l1:=unm_len s x.pk.pre x.pk.nm true x.pk.pre.length; have f1:=FQ.out.pre; have l2:=unm_len s x.pk.dep x.pk.nm false x.pk.dep.length; have f2:=FQ.out.dep; have l3:=claN_len s i x.pk.con 2 x.pk.con.length; have f3:x.pk.con.length * s.length ≤ 50 * 26:=Nat.mul_le_mul FQ.out.con HLEN.out; (try unfold unm at h1); (try unfold cla at h1)
         omega)
        clear E HS hm
        go_wp2_with fail
        refine cm.mono ?_
        rintro e w4 ⟨rfl,k4⟩
        have O4:=Lib.hid (Own.owns_below O.out k4)
        have I4:=Lib.hid (Rl.is_on I.out k4)
        have B4:=Lib.hid (B.out.trans (k4.mono B.out.size))
        clear O I B
        have O:=O4
        have I:=I4
        have B:=B4
        clear cm k4 O4 I4 B4
        have hbA:=(Below.refl w4.heap.size w4).alloc (Nat.le_refl _) (.cells #[.int .i64 1,.string (S x.pk.nm),.bool true,.int .i64 (k:Int),.string ⟨#[]⟩] 43)
        have iA:=Blk.Is.new w4 43 #[.int .i64 1,.string (S x.pk.nm),.bool true,.int .i64 (k:Int),.string ⟨#[]⟩]
        obtain ⟨WA,hWA⟩:∃ WA,w4.alloc (.cells #[.int .i64 1,.string (S x.pk.nm),.bool true,.int .i64 (k:Int),.string ⟨#[]⟩] 43) = WA:=⟨_,rfl⟩
        rw [hWA] at hbA iA
        have OA:=Lib.hid (Own.owns_below O.out hbA)
        have BA:=Lib.hid (B.out.trans (hbA.mono B.out.size))
        have HCA:=Lib.hid iA
        have HWA:=Lib.hid hWA
        have ZA:=Lib.hid BA.out.size
        have IA:=Lib.hid (Rl.is_on I.out hbA)
        clear hbA iA hWA O B I
        go_wp2_with (at_builtin; rw [HWA.out]; refine Rl.append_el Tryd.underlying27 infoVi rfl (by decide) rfl (.tmp 59) (.tmp 63) rfl wd.heap.size (.slice ra m rc) m XS rfl OA.out w4.heap.size 1 rfl [.int .i64 1,.string (S x.pk.nm),.bool true,.int .i64 (k:Int),.string ⟨#[]⟩] rfl (fun j u hj=>HCA.out.at (by rw [← Array.getElem?_toList]; exact hj)) (fun u hu=>by simp only [List.mem_cons,List.not_mem_nil,or_false] at hu; rcases hu with rfl | rfl | rfl | rfl | rfl <;> rfl) K70.out ZA.out ?_; intro v9 w9 h9 g9; have b9:=Own.below_grown BA.out OA.out g9 ZA.out; have c9:=Blk.Chg.grown (S:=fun q=>Value.ownBlock (.slice ra m rc) = some q) (Blk.Chg.refl _ _) g9 (fun q hq _=>hq); have I9:=Lib.hid (c9.is IA.out (not_row IA.out (by decide) OA.out)); obtain ⟨a9,r9,rfl,_⟩:=Rl.own_shape h9; have O9:=Lib.hid h9; have B9:=Lib.hid b9; clear h9 g9 b9 c9)
        go_roundg g3
        case measure=>omega
        case rel=>exact ⟨k + 1,m + 1,a9,r9,_,rfl,by go_num,O9,HE2,B9,I9,by omega,by omega⟩
      ·obtain rfl:n1 = k:=by omega
       have hge:¬ (n1:Int) < (n1:Int):=by omega
       have E2:Hid (m = (wrN s i ++ unm s x.pk.pre x.pk.nm true).length ∧ XS = vcells (wrN s i ++ unm s x.pk.pre x.pk.nm true)):=by
        unfold unm
        rw [← HQ.out.pre]; exact E
       clear E
       have E:=E2
       clear E2 hfu3 hkn hge
       have HQn1:=Lib.hid HQ.out
       clear hlt
       cases hcf:x.cfg with
       | true =>
        rw [hcf] at I WSUCC
        clear hcf
        have v3:=I.out.at (i:=3) rfl
        have v9:=I.out.at (i:=9) rfl
        go_wp2_with fail
        clear v3 v9
        go_loopg [6,72] n2 (fun gf s6 sk wx=>∃ (k m:Nat) (ra:Option Addr) (rc:Nat) (XS:List Value),s6 = .slice ra m rc ∧ sk = .int .i64 k ∧ Hid (wx.ownsRow wd.heap.size 43 5 (.slice ra m rc) m XS) ∧ Hid (m = (wrN s i ++ unm s x.pk.pre x.pk.nm true ++ unmN s x.pk.dep x.pk.nm false k).length ∧ XS = vcells (wrN s i ++ unm s x.pk.pre x.pk.nm true ++ unmN s x.pk.dep x.pk.nm false k)) ∧ Hid (Below wd.heap.size wd wx) ∧ Hid (Blk.Is wx bx 38 #[.string (S x.pk.nm),.string (S x.pk.vs),.slice a1 n1 c1,.slice a2 n2 c2,.slice a3 n3 c3,.slice a4 n4 c4,.slice a5 n5 c5,.slice a6 n6 c6,.bool x.pk.ess,.bool true,.bool x.hld]) ∧ k ≤ n2 ∧ n2 ≤ k + gf)
        case atStart=>exact ⟨0,m,ra,rc,XS,rfl,rfl,O,Lib.hid (by rw [show unmN s x.pk.dep x.pk.nm false 0 = [] from rfl,List.append_nil]; exact E.out),B,I,by omega,by omega⟩
        case round =>
         clear O E B I
         obtain ⟨k,m,ra,rc,XS,rfl,rfl,O,E,B,I,hkn,hfu3⟩:=hrel
         by_cases hlt:k < n2
         ·obtain ⟨g3,rfl⟩:∃ g3,gk = g3 + 1:=⟨gk - 1,by omega⟩
          have hlt':(k:Int) < (n2:Int):=by omega
          have hk0:(0:Int) ≤ k:=by omega
          have hkl:k < x.pk.dep.length:=by rw [← HQ.out.dep]; exact hlt
          obtain ⟨_,a',cap',e1,_,hcells⟩:=HH.out.dep.below B.out
          rw [← HQ.out.dep] at e1
          simp only [Value.slice.injEq,true_and] at e1
          obtain ⟨rfl,rfl⟩:=e1
          obtain ⟨kb,off,rfl,hat⟩:=hcells (by omega)
          obtain ⟨u,z0,hA⟩:=hat k hkl
          rw [Nat.one_mul] at z0
          have hlim:=HLX.out.dep _ (mem_getD (z:=[]) hkl)
          have cm:=ymet_any u _ _ (done s) wr hA (HDN.out.below B.out) HDL.out hlim
          rw [met_done] at cm
          obtain ⟨ua,uc,rfl⟩:=hA.shape
          have hsucc:=unmN_succ s x.pk.dep x.pk.nm false k
          have hu1:unm1 s x.pk.dep x.pk.nm false k = if metB s (x.pk.dep.getD k []) = true then [] else [(1,x.pk.nm,false,(k:Int),[])]:=rfl
          rw [hu1] at hsucc
          obtain ⟨um,hum⟩:∃ um,(x.pk.dep.getD k []).length = um:=⟨_,rfl⟩
          rw [hum] at z0 cm
          have HS:=Lib.hid hsucc
          clear hcells hat hA hum hlim hkl hu1 hsucc
          cases hm:metB s (x.pk.dep.getD k []) with
          | true =>
           rw [hm] at cm
           have HE2:Hid (m = (wrN s i ++ unm s x.pk.pre x.pk.nm true ++ unmN s x.pk.dep x.pk.nm false (k + 1)).length ∧ XS = vcells (wrN s i ++ unm s x.pk.pre x.pk.nm true ++ unmN s x.pk.dep x.pk.nm false (k + 1))):=by
            rw [HS.out,hm,if_pos rfl,List.append_nil]; exact E
           clear E HS hm
           go_wp2_with fail
           refine cm.mono ?_
           rintro e w4 ⟨rfl,k4⟩
           have O4:=Lib.hid (Own.owns_below O.out k4)
           have I4:=Lib.hid (Rl.is_on I.out k4)
           have B4:=Lib.hid (B.out.trans (k4.mono B.out.size))
           clear cm k4 O I B
           go_wp2_with fail
           go_roundg g3
           case measure=>omega
           case rel=>exact ⟨k + 1,m,ra,rc,XS,rfl,by go_num,O4,HE2,B4,I4,by omega,by omega⟩
          | false =>
           rw [hm] at cm
           have HE2:Hid (m + 1 = (wrN s i ++ unm s x.pk.pre x.pk.nm true ++ unmN s x.pk.dep x.pk.nm false (k + 1)).length ∧ XS ++ [.int .i64 1,.string (S x.pk.nm),.bool false,.int .i64 (k:Int),.string ⟨#[]⟩] = vcells (wrN s i ++ unm s x.pk.pre x.pk.nm true ++ unmN s x.pk.dep x.pk.nm false (k + 1))):=Lib.hid (by
            rw [HS.out,hm,if_neg (by simp),← List.append_assoc,List.length_append,vcells_app,← E.out.1,← E.out.2]
            exact ⟨rfl,rfl⟩)
           have K70:Hid (m + 1 ≤ 70000):=Lib.hid (by
            have h1:=E.out.1
            have h2:=unm_len s x.pk.dep x.pk.nm false k
            have h3:=FQ.out.dep
            have h4:=PRE.out
            simp only [List.length_append] at h1
            have l1:=unm_len s x.pk.pre x.pk.nm true x.pk.pre.length; have f1:=FQ.out.pre; have l2:=unm_len s x.pk.dep x.pk.nm false x.pk.dep.length; have f2:=FQ.out.dep; have l3:=claN_len s i x.pk.con 2 x.pk.con.length; have f3:x.pk.con.length * s.length ≤ 50 * 26:=Nat.mul_le_mul FQ.out.con HLEN.out; (try unfold unm at h1); (try unfold cla at h1)
            omega)
           clear E HS hm
           go_wp2_with fail
           refine cm.mono ?_
           rintro e w4 ⟨rfl,k4⟩
           have O4:=Lib.hid (Own.owns_below O.out k4)
           have I4:=Lib.hid (Rl.is_on I.out k4)
           have B4:=Lib.hid (B.out.trans (k4.mono B.out.size))
           clear O I B
           have O:=O4
           have I:=I4
           have B:=B4
           clear cm k4 O4 I4 B4
           have hbA:=(Below.refl w4.heap.size w4).alloc (Nat.le_refl _) (.cells #[.int .i64 1,.string (S x.pk.nm),.bool false,.int .i64 (k:Int),.string ⟨#[]⟩] 43)
           have iA:=Blk.Is.new w4 43 #[.int .i64 1,.string (S x.pk.nm),.bool false,.int .i64 (k:Int),.string ⟨#[]⟩]
           obtain ⟨WA,hWA⟩:∃ WA,w4.alloc (.cells #[.int .i64 1,.string (S x.pk.nm),.bool false,.int .i64 (k:Int),.string ⟨#[]⟩] 43) = WA:=⟨_,rfl⟩
           rw [hWA] at hbA iA
           have OA:=Lib.hid (Own.owns_below O.out hbA)
           have BA:=Lib.hid (B.out.trans (hbA.mono B.out.size))
           have HCA:=Lib.hid iA
           have HWA:=Lib.hid hWA
           have ZA:=Lib.hid BA.out.size
           have IA:=Lib.hid (Rl.is_on I.out hbA)
           clear hbA iA hWA O B I
           go_wp2_with (at_builtin; rw [HWA.out]; refine Rl.append_el Tryd.underlying27 infoVi rfl (by decide) rfl (.tmp 81) (.tmp 85) rfl wd.heap.size (.slice ra m rc) m XS rfl OA.out w4.heap.size 1 rfl [.int .i64 1,.string (S x.pk.nm),.bool false,.int .i64 (k:Int),.string ⟨#[]⟩] rfl (fun j u hj=>HCA.out.at (by rw [← Array.getElem?_toList]; exact hj)) (fun u hu=>by simp only [List.mem_cons,List.not_mem_nil,or_false] at hu; rcases hu with rfl | rfl | rfl | rfl | rfl <;> rfl) K70.out ZA.out ?_; intro v9 w9 h9 g9; have b9:=Own.below_grown BA.out OA.out g9 ZA.out; have c9:=Blk.Chg.grown (S:=fun q=>Value.ownBlock (.slice ra m rc) = some q) (Blk.Chg.refl _ _) g9 (fun q hq _=>hq); have I9:=Lib.hid (c9.is IA.out (not_row IA.out (by decide) OA.out)); obtain ⟨a9,r9,rfl,_⟩:=Rl.own_shape h9; have O9:=Lib.hid h9; have B9:=Lib.hid b9; clear h9 g9 b9 c9)
           go_roundg g3
           case measure=>omega
           case rel=>exact ⟨k + 1,m + 1,a9,r9,_,rfl,by go_num,O9,HE2,B9,I9,by omega,by omega⟩
         ·obtain rfl:n2 = k:=by omega
          have hge:¬ (n2:Int) < (n2:Int):=by omega
          have E2:Hid (m = (wrN s i ++ unm s x.pk.pre x.pk.nm true ++ unm s x.pk.dep x.pk.nm false).length ∧ XS = vcells (wrN s i ++ unm s x.pk.pre x.pk.nm true ++ unm s x.pk.dep x.pk.nm false)):=by
           unfold unm
           rw [← HQ.out.dep]; exact E
          clear E
          have E:=E2
          clear E2 hfu3 hkn hge
          have HQn2:=Lib.hid HQ.out
          clear hlt
          have v5:=I.out.at (i:=5) rfl
          go_wp2_with fail
          clear v5
          go_loopg [6,92] n4 (fun gf s6 sk wx=>∃ (k m:Nat) (ra:Option Addr) (rc:Nat) (XS:List Value),s6 = .slice ra m rc ∧ sk = .int .i64 k ∧ Hid (wx.ownsRow wd.heap.size 43 5 (.slice ra m rc) m XS) ∧ Hid (m = (wrN s i ++ unm s x.pk.pre x.pk.nm true ++ unm s x.pk.dep x.pk.nm false ++ claN s i x.pk.con 2 k).length ∧ XS = vcells (wrN s i ++ unm s x.pk.pre x.pk.nm true ++ unm s x.pk.dep x.pk.nm false ++ claN s i x.pk.con 2 k)) ∧ Hid (Below wd.heap.size wd wx) ∧ Hid (Blk.Is wx bx 38 #[.string (S x.pk.nm),.string (S x.pk.vs),.slice a1 n1 c1,.slice a2 n2 c2,.slice a3 n3 c3,.slice a4 n4 c4,.slice a5 n5 c5,.slice a6 n6 c6,.bool x.pk.ess,.bool true,.bool x.hld]) ∧ k ≤ n4 ∧ n4 ≤ k + gf)
          case atStart=>exact ⟨0,m,ra,rc,XS,rfl,rfl,O,Lib.hid (by rw [show claN s i x.pk.con 2 0 = [] from rfl,List.append_nil]; exact E.out),B,I,by omega,by omega⟩
          case round =>
           clear O E B I
           obtain ⟨k,m,ra,rc,XS,rfl,rfl,O,E,B,I,hkn,hfu3⟩:=hrel
           by_cases hlt:k < n4
           ·obtain ⟨g3,rfl⟩:∃ g3,gk = g3 + 1:=⟨gk - 1,by omega⟩
            have hlt':(k:Int) < (n4:Int):=by omega
            have hk0:(0:Int) ≤ k:=by omega
            have hkl:k < x.pk.con.length:=by rw [← HQ.out.con]; exact hlt
            obtain ⟨_,a',cap',e1,_,hcells⟩:=HH.out.con.below B.out
            rw [← HQ.out.con] at e1
            simp only [Value.slice.injEq,true_and] at e1
            obtain ⟨rfl,rfl⟩:=e1
            obtain ⟨kc,offc,rfl,hat⟩:=hcells (by omega)
            obtain ⟨x0,x1,x2⟩:=hat k hkl
            rw [Nat.mul_comm 3 k] at x0 x1 x2
            have hlim:=HLX.out.con _ (mem_getD (z:=nA) hkl)
            have hsucc:=claN_succ s i x.pk.con 2 k
            obtain ⟨a,ha⟩:∃ a,x.pk.con.getD k nA = a:=⟨_,rfl⟩
            rw [ha] at x0 x1 x2 hlim hsucc
            have hb2:=(Below.refl wr.heap.size wr).alloc (Nat.le_refl _) (.cells #[.string (S a.1),.int .i64 a.2.1,.string (S a.2.2)] 47)
            have i2:=Blk.Is.new wr 47 #[.string (S a.1),.int .i64 a.2.1,.string (S a.2.2)]
            obtain ⟨ba,hba⟩:∃ ba,wr.heap.size = ba:=⟨_,rfl⟩
            obtain ⟨V0,hV0⟩:∃ V0,wr.alloc (.cells #[.string (S a.1),.int .i64 a.2.1,.string (S a.2.2)] 47) = V0:=⟨_,rfl⟩
            rw [hV0] at hb2 i2
            rw [hba] at i2
            have O0:=Lib.hid (Own.owns_below O.out hb2)
            have B0:=Lib.hid (B.out.trans (hb2.mono B.out.size))
            have I0:=Lib.hid (Rl.is_on I.out hb2)
            have A:=Lib.hid i2
            have HLA:=Lib.hid hlim
            have HSN:=Lib.hid hsucc
            have KM:Hid ((claN s i x.pk.con 2 k).length ≤ 1300):=Lib.hid (by
             have h1:=claN_len s i x.pk.con 2 k
             have h2:k * s.length ≤ 50 * 26:=Nat.mul_le_mul (by have:=FQ.out.con; omega) HLEN.out
             omega)
            have E0:Hid (m = (wrN s i ++ unm s x.pk.pre x.pk.nm true ++ unm s x.pk.dep x.pk.nm false ++ claN s i x.pk.con 2 k ++ claJ s i 2 k a 0).length ∧ XS = vcells (wrN s i ++ unm s x.pk.pre x.pk.nm true ++ unm s x.pk.dep x.pk.nm false ++ claN s i x.pk.con 2 k ++ claJ s i 2 k a 0)):=by
             rw [show claJ s i 2 k a 0 = [] from rfl,List.append_nil]; exact E
            have hu:=hV0
            clear hcells hat hkl hlim hsucc ha hb2 i2 hV0 O E B I
            go_wp2_with fail
            clear hu x0 x1 x2
            go_loopg [6,99] n (fun gf s6 sj wx=>∃ (j m:Nat) (ra:Option Addr) (rc:Nat) (XS:List Value),s6 = .slice ra m rc ∧ sj = .int .i64 j ∧ Hid (wx.ownsRow wd.heap.size 43 5 (.slice ra m rc) m XS) ∧ Hid (m = (wrN s i ++ unm s x.pk.pre x.pk.nm true ++ unm s x.pk.dep x.pk.nm false ++ claN s i x.pk.con 2 k ++ claJ s i 2 k a j).length ∧ XS = vcells (wrN s i ++ unm s x.pk.pre x.pk.nm true ++ unm s x.pk.dep x.pk.nm false ++ claN s i x.pk.con 2 k ++ claJ s i 2 k a j)) ∧ Hid (Below wd.heap.size wd wx) ∧ Hid (Blk.Is wx bx 38 #[.string (S x.pk.nm),.string (S x.pk.vs),.slice a1 n1 c1,.slice a2 n2 c2,.slice a3 n3 c3,.slice (some ⟨kc,offc,none⟩) n4 c4,.slice a5 n5 c5,.slice a6 n6 c6,.bool x.pk.ess,.bool true,.bool x.hld]) ∧ Hid (Blk.Is wx ba 47 #[.string (S a.1),.int .i64 a.2.1,.string (S a.2.2)]) ∧ j ≤ n ∧ n ≤ j + gf)
            case atStart=>exact ⟨0,m,ra,rc,XS,rfl,rfl,O0,E0,B0,I0,A,by omega,by omega⟩
            case round =>
             clear O0 E0 B0 I0 A
             obtain ⟨j,m,ra,rc,XS,rfl,rfl,O,E,B,I,A,hjn,hfu4⟩:=hrel
             by_cases hjl:j < n
             ·obtain ⟨g4,rfl⟩:∃ g4,gk = g4 + 1:=⟨gk - 1,by omega⟩
              have hjl':(j:Int) < (n:Int):=by omega
              have hj0:(0:Int) ≤ j:=by omega
              have hjs:j < s.length:=by rw [HN.out]; exact hjl
              obtain ⟨_,a',cap',e1,_,hcells⟩:=H.out.below B.out
              rw [HN.out] at e1
              simp only [Value.slice.injEq,true_and] at e1
              obtain ⟨rfl,rfl⟩:=e1
              obtain ⟨kb,off,e1,hat⟩:=hcells (by omega)
              simp only [Option.some.injEq,Addr.mk.injEq,and_true] at e1
              obtain ⟨rfl,rfl⟩:=e1
              obtain ⟨b1,m1,d1,b2,m2,d2,b3,m3,d3,b4,m4,d4,b5,m5,d5,b6,m6,d6,⟨x0,x1,x2,x3,x4,x5,x6,x7,x8,x9,x10⟩,hh⟩:=en_read (hat j hjs)
              rw [Nat.mul_comm 11 j] at x0 x1 x2 x3 x4 x5 x6 x7 x8 x9 x10
              have hlim:=HL.out _ (mem_getD (z:=nEn) hjs)
              have hsucc:=claJ_succ s i 2 k a j
              have hhit:hit s i 2 a j = (!(decide (j = i) || (decide ((2:Int) = 3) && !(s.getD j nEn).cfg)) && sat (s.getD j nEn).pk a):=rfl
              have hone:cla1 s i 2 k a j = if hit s i 2 a j = true then [(2,(s.getD i nEn).pk.nm,false,(k:Int),(s.getD j nEn).pk.nm)] else []:=rfl
              rw [hone,HXX.out] at hsucc
              obtain ⟨y,hy⟩:∃ y,s.getD j nEn = y:=⟨_,rfl⟩
              rw [hy] at x0 x1 x8 x9 x10 hlim hh hsucc hhit
              have hb2:=(Below.refl wr.heap.size wr).alloc (Nat.le_refl _) (.cells #[.string (S y.pk.nm),.string (S y.pk.vs),.slice b1 m1 d1,.slice b2 m2 d2,.slice b3 m3 d3,.slice b4 m4 d4,.slice b5 m5 d5,.slice b6 m6 d6,.bool y.pk.ess,.bool y.cfg,.bool y.hld] 38)
              have i2:=Blk.Is.new wr 38 #[.string (S y.pk.nm),.string (S y.pk.vs),.slice b1 m1 d1,.slice b2 m2 d2,.slice b3 m3 d3,.slice b4 m4 d4,.slice b5 m5 d5,.slice b6 m6 d6,.bool y.pk.ess,.bool y.cfg,.bool y.hld]
              obtain ⟨by',hby⟩:∃ by',wr.heap.size = by':=⟨_,rfl⟩
              obtain ⟨V,hV⟩:∃ V,wr.alloc (.cells #[.string (S y.pk.nm),.string (S y.pk.vs),.slice b1 m1 d1,.slice b2 m2 d2,.slice b3 m3 d3,.slice b4 m4 d4,.slice b5 m5 d5,.slice b6 m6 d6,.bool y.pk.ess,.bool y.cfg,.bool y.hld] 38) = V:=⟨_,rfl⟩
              rw [hV] at hb2 i2
              rw [hby] at i2
              have O2:=Lib.hid (Own.owns_below O.out hb2)
              have B2:=Lib.hid (B.out.trans (hb2.mono B.out.size))
              have I2:=Lib.hid (Rl.is_on I.out hb2)
              have A2:=Lib.hid (Rl.is_on A.out hb2)
              clear O B I A
              have O:=O2
              have B:=B2
              have I:=I2
              have A:=A2
              clear O2 B2 I2 A2
              have dd0:=A.out.at (i:=0) rfl
              have dd1:=A.out.at (i:=1) rfl
              have dd2:=A.out.at (i:=2) rfl
              have z0:=i2.at (i:=0) rfl
              have z1:=i2.at (i:=1) rfl
              have z2:=i2.at (i:=2) rfl
              have z3:=i2.at (i:=3) rfl
              have z4:=i2.at (i:=4) rfl
              have z5:=i2.at (i:=5) rfl
              have z6:=i2.at (i:=6) rfl
              have z7:=i2.at (i:=7) rfl
              have z8:=i2.at (i:=8) rfl
              have z9:=i2.at (i:=9) rfl
              have cs:=ysat_any (.agg #[.string (S y.pk.nm),.string (S y.pk.vs),.slice b1 m1 d1,.slice b2 m2 d2,.slice b3 m3 d3,.slice b4 m4 d4,.slice b5 m5 d5,.slice b6 m6 d6,.bool y.pk.ess]) y.pk a V ⟨_,_,_,_,_,_,rfl,hh.below hb2⟩ hlim HLA.out
              unfold aV at cs
              have IY:=Lib.hid i2
              have HS:Hid (wrN s i ++ unm s x.pk.pre x.pk.nm true ++ unm s x.pk.dep x.pk.nm false ++ claN s i x.pk.con 2 k ++ claJ s i 2 k a (j + 1) = (wrN s i ++ unm s x.pk.pre x.pk.nm true ++ unm s x.pk.dep x.pk.nm false ++ claN s i x.pk.con 2 k ++ claJ s i 2 k a j) ++ (if hit s i 2 a j = true then [(2,x.pk.nm,false,(k:Int),y.pk.nm)] else [])):=by
               refine Lib.hid ?_
               rw [hsucc,← List.append_assoc]
              have HHIT:=Lib.hid hhit
              have hu:=hV
              clear hcells hat hjs hlim hsucc hhit hone hy hb2 i2 hV hh
              by_cases hjp:j = i
              ·have hj1:((j:Int) != (i:Int)) = false:=by simp [hjp]
               have HJ:Hid (decide (j = i) = true):=decide_eq_true hjp
               clear hjp
               have HE2:Hid (m = (wrN s i ++ unm s x.pk.pre x.pk.nm true ++ unm s x.pk.dep x.pk.nm false ++ claN s i x.pk.con 2 k ++ claJ s i 2 k a (j + 1)).length ∧ XS = vcells (wrN s i ++ unm s x.pk.pre x.pk.nm true ++ unm s x.pk.dep x.pk.nm false ++ claN s i x.pk.con 2 k ++ claJ s i 2 k a (j + 1))):=by
                rw [HS.out,HHIT.out]
                simp only [HJ.out,Bool.true_or,Bool.not_true,Bool.false_and,Bool.false_eq_true,if_false,List.append_nil]
                exact E
               clear E HS HHIT cs
               go_wp2_with fail
               go_roundg g4
               case measure=>omega
               case rel=>exact ⟨j + 1,m,ra,rc,XS,rfl,by go_num,O,HE2,B,I,A,by omega,by omega⟩
              ·have hj1:((j:Int) != (i:Int)) = true:=by
                rw [bne_iff_ne]; omega
               have HJ:Hid (decide (j = i) = false):=decide_eq_false hjp
               clear hjp
               cases hs:sat y.pk a with
               | false =>
                rw [hs] at cs
                have HE2:Hid (m = (wrN s i ++ unm s x.pk.pre x.pk.nm true ++ unm s x.pk.dep x.pk.nm false ++ claN s i x.pk.con 2 k ++ claJ s i 2 k a (j + 1)).length ∧ XS = vcells (wrN s i ++ unm s x.pk.pre x.pk.nm true ++ unm s x.pk.dep x.pk.nm false ++ claN s i x.pk.con 2 k ++ claJ s i 2 k a (j + 1))):=by
                 rw [HS.out,HHIT.out,hs]
                 simp only [Bool.and_false,Bool.false_eq_true,if_false,List.append_nil]
                 exact E
                clear E HS HHIT hs
                go_wp2_with fail
                refine cs.mono ?_
                rintro e w5 ⟨rfl,k5⟩
                have O4:=Lib.hid (Own.owns_below O.out k5)
                have B4:=Lib.hid (B.out.trans (k5.mono B.out.size))
                have I4:=Lib.hid (Rl.is_on I.out k5)
                have A4:=Lib.hid (Rl.is_on A.out k5)
                clear cs k5 O B I A IY
                go_wp2_with fail
                go_roundg g4
                case measure=>omega
                case rel=>exact ⟨j + 1,m,ra,rc,XS,rfl,by go_num,O4,HE2,B4,I4,A4,by omega,by omega⟩
               | true =>
                rw [hs] at cs
                have HE2:Hid (m + 1 = (wrN s i ++ unm s x.pk.pre x.pk.nm true ++ unm s x.pk.dep x.pk.nm false ++ claN s i x.pk.con 2 k ++ claJ s i 2 k a (j + 1)).length ∧ XS ++ [.int .i64 2,.string (S x.pk.nm),.bool false,.int .i64 (k:Int),.string (S y.pk.nm)] = vcells (wrN s i ++ unm s x.pk.pre x.pk.nm true ++ unm s x.pk.dep x.pk.nm false ++ claN s i x.pk.con 2 k ++ claJ s i 2 k a (j + 1))):=Lib.hid (by
                 rw [HS.out,HHIT.out,hs]
                 simp only [HJ.out,decide_false,Bool.false_or,Bool.not_false,Bool.true_and,Bool.and_self,Bool.false_and,if_true,show decide ((2:Int) = 3) = false from rfl]
                 rw [List.length_append,vcells_app,← E.out.1,← E.out.2]
                 exact ⟨rfl,rfl⟩)
                have K70:Hid (m + 1 ≤ 70000):=Lib.hid (by
                 have h1:=E.out.1
                 have h2:=KM.out
                 have h5:=claJ_len s i 2 k a j
                 have h6:=HLEN.out
                 have h4:=PRE.out
                 simp only [List.length_append] at h1
                 have l1:=unm_len s x.pk.pre x.pk.nm true x.pk.pre.length; have f1:=FQ.out.pre; have l2:=unm_len s x.pk.dep x.pk.nm false x.pk.dep.length; have f2:=FQ.out.dep; have l3:=claN_len s i x.pk.con 2 x.pk.con.length; have f3:x.pk.con.length * s.length ≤ 50 * 26:=Nat.mul_le_mul FQ.out.con HLEN.out; (try unfold unm at h1); (try unfold cla at h1)
                 omega)
                clear E HS HHIT hs
                go_wp2_with fail
                refine cs.mono ?_
                rintro e w5 ⟨rfl,k5⟩
                have O4:=Lib.hid (Own.owns_below O.out k5)
                have B4:=Lib.hid (B.out.trans (k5.mono B.out.size))
                have I4:=Lib.hid (Rl.is_on I.out k5)
                have A4:=Lib.hid (Rl.is_on A.out k5)
                have z0:=(Rl.is_on IY.out k5).at (i:=0) rfl
                clear O B I A IY
                have O:=O4
                have B:=B4
                have I:=I4
                have A:=A4
                clear cs k5 O4 B4 I4 A4
                have hbA:=(Below.refl w5.heap.size w5).alloc (Nat.le_refl _) (.cells #[.int .i64 2,.string (S x.pk.nm),.bool false,.int .i64 (k:Int),.string (S y.pk.nm)] 43)
                have iA:=Blk.Is.new w5 43 #[.int .i64 2,.string (S x.pk.nm),.bool false,.int .i64 (k:Int),.string (S y.pk.nm)]
                obtain ⟨WA,hWA⟩:∃ WA,w5.alloc (.cells #[.int .i64 2,.string (S x.pk.nm),.bool false,.int .i64 (k:Int),.string (S y.pk.nm)] 43) = WA:=⟨_,rfl⟩
                rw [hWA] at hbA iA
                have OA:=Lib.hid (Own.owns_below O.out hbA)
                have BA:=Lib.hid (B.out.trans (hbA.mono B.out.size))
                have HCA:=Lib.hid iA
                have HWA:=Lib.hid hWA
                have ZA:=Lib.hid BA.out.size
                have IA:=Lib.hid (Rl.is_on I.out hbA)
                have AA:=Lib.hid (Rl.is_on A.out hbA)
                clear hbA iA hWA O B I A
                go_wp2_with (at_builtin; rw [HWA.out]; refine Rl.append_el Tryd.underlying27 infoVi rfl (by decide) rfl (.tmp 113) (.tmp 120) rfl wd.heap.size (.slice ra m rc) m XS rfl OA.out w5.heap.size 1 rfl [.int .i64 2,.string (S x.pk.nm),.bool false,.int .i64 (k:Int),.string (S y.pk.nm)] rfl (fun j u hj=>HCA.out.at (by rw [← Array.getElem?_toList]; exact hj)) (fun u hu=>by simp only [List.mem_cons,List.not_mem_nil,or_false] at hu; rcases hu with rfl | rfl | rfl | rfl | rfl <;> rfl) K70.out ZA.out ?_; intro v9 w9 h9 g9; have b9:=Own.below_grown BA.out OA.out g9 ZA.out; have c9:=Blk.Chg.grown (S:=fun q=>Value.ownBlock (.slice ra m rc) = some q) (Blk.Chg.refl _ _) g9 (fun q hq _=>hq); have I9:=Lib.hid (c9.is IA.out (not_row IA.out (by decide) OA.out)); have A9:=Lib.hid (c9.is AA.out (not_row AA.out (by decide) OA.out)); obtain ⟨a9,r9,rfl,_⟩:=Rl.own_shape h9; have O9:=Lib.hid h9; have B9:=Lib.hid b9; clear h9 g9 b9 c9)
                go_roundg g4
                case measure=>omega
                case rel=>exact ⟨j + 1,m + 1,a9,r9,_,rfl,by go_num,O9,HE2,B9,I9,A9,by omega,by omega⟩
             ·have hge:¬ (j:Int) < (n:Int):=by omega
              obtain rfl:j = n:=by omega
              have HE2:Hid (m = (wrN s i ++ unm s x.pk.pre x.pk.nm true ++ unm s x.pk.dep x.pk.nm false ++ claN s i x.pk.con 2 (k + 1)).length ∧ XS = vcells (wrN s i ++ unm s x.pk.pre x.pk.nm true ++ unm s x.pk.dep x.pk.nm false ++ claN s i x.pk.con 2 (k + 1))):=by
               rw [HSN.out,HN.out,← List.append_assoc]; exact E
              clear E A
              go_wp2_with fail
              go_roundg g3
              case measure=>omega
              case rel=>exact ⟨k + 1,m,ra,rc,XS,rfl,by go_num,O,HE2,B,I,by omega,by omega⟩
           ·obtain rfl:n4 = k:=by omega
            have hge:¬ (n4:Int) < (n4:Int):=by omega
            have E2:Hid (m = (wrN s i ++ unm s x.pk.pre x.pk.nm true ++ unm s x.pk.dep x.pk.nm false ++ cla s i x.pk.con 2).length ∧ XS = vcells (wrN s i ++ unm s x.pk.pre x.pk.nm true ++ unm s x.pk.dep x.pk.nm false ++ cla s i x.pk.con 2)):=by
             unfold cla
             rw [← HQ.out.con]; exact E
            clear E
            have E:=E2
            clear E2 hfu3 hkn hge hlt
            have v6:=I.out.at (i:=6) rfl
            go_wp2_with fail
            clear v6
            go_loopg [6,128] n5 (fun gf s6 sk wx=>∃ (k m:Nat) (ra:Option Addr) (rc:Nat) (XS:List Value),s6 = .slice ra m rc ∧ sk = .int .i64 k ∧ Hid (wx.ownsRow wd.heap.size 43 5 (.slice ra m rc) m XS) ∧ Hid (m = (wrN s i ++ unm s x.pk.pre x.pk.nm true ++ unm s x.pk.dep x.pk.nm false ++ cla s i x.pk.con 2 ++ claN s i x.pk.brk 3 k).length ∧ XS = vcells (wrN s i ++ unm s x.pk.pre x.pk.nm true ++ unm s x.pk.dep x.pk.nm false ++ cla s i x.pk.con 2 ++ claN s i x.pk.brk 3 k)) ∧ Hid (Below wd.heap.size wd wx) ∧ Hid (Blk.Is wx bx 38 #[.string (S x.pk.nm),.string (S x.pk.vs),.slice a1 n1 c1,.slice a2 n2 c2,.slice a3 n3 c3,.slice a4 n4 c4,.slice a5 n5 c5,.slice a6 n6 c6,.bool x.pk.ess,.bool true,.bool x.hld]) ∧ k ≤ n5 ∧ n5 ≤ k + gf)
            case atStart=>exact ⟨0,m,ra,rc,XS,rfl,rfl,O,Lib.hid (by rw [show claN s i x.pk.brk 3 0 = [] from rfl,List.append_nil]; exact E.out),B,I,by omega,by omega⟩
            case round =>
             clear O E B I
             obtain ⟨k,m,ra,rc,XS,rfl,rfl,O,E,B,I,hkn,hfu3⟩:=hrel
             by_cases hlt:k < n5
             ·obtain ⟨g3,rfl⟩:∃ g3,gk = g3 + 1:=⟨gk - 1,by omega⟩
              have hlt':(k:Int) < (n5:Int):=by omega
              have hk0:(0:Int) ≤ k:=by omega
              have hkl:k < x.pk.brk.length:=by rw [← HQ.out.brk]; exact hlt
              obtain ⟨_,a',cap',e1,_,hcells⟩:=HH.out.brk.below B.out
              rw [← HQ.out.brk] at e1
              simp only [Value.slice.injEq,true_and] at e1
              obtain ⟨rfl,rfl⟩:=e1
              obtain ⟨kc,offc,rfl,hat⟩:=hcells (by omega)
              obtain ⟨x0,x1,x2⟩:=hat k hkl
              rw [Nat.mul_comm 3 k] at x0 x1 x2
              have hlim:=HLX.out.brk _ (mem_getD (z:=nA) hkl)
              have hsucc:=claN_succ s i x.pk.brk 3 k
              obtain ⟨a,ha⟩:∃ a,x.pk.brk.getD k nA = a:=⟨_,rfl⟩
              rw [ha] at x0 x1 x2 hlim hsucc
              have hb2:=(Below.refl wr.heap.size wr).alloc (Nat.le_refl _) (.cells #[.string (S a.1),.int .i64 a.2.1,.string (S a.2.2)] 47)
              have i2:=Blk.Is.new wr 47 #[.string (S a.1),.int .i64 a.2.1,.string (S a.2.2)]
              obtain ⟨ba,hba⟩:∃ ba,wr.heap.size = ba:=⟨_,rfl⟩
              obtain ⟨V0,hV0⟩:∃ V0,wr.alloc (.cells #[.string (S a.1),.int .i64 a.2.1,.string (S a.2.2)] 47) = V0:=⟨_,rfl⟩
              rw [hV0] at hb2 i2
              rw [hba] at i2
              have O0:=Lib.hid (Own.owns_below O.out hb2)
              have B0:=Lib.hid (B.out.trans (hb2.mono B.out.size))
              have I0:=Lib.hid (Rl.is_on I.out hb2)
              have A:=Lib.hid i2
              have HLA:=Lib.hid hlim
              have HSN:=Lib.hid hsucc
              have KM:Hid ((claN s i x.pk.brk 3 k).length ≤ 1300):=Lib.hid (by
               have h1:=claN_len s i x.pk.brk 3 k
               have h2:k * s.length ≤ 50 * 26:=Nat.mul_le_mul (by have:=FQ.out.brk; omega) HLEN.out
               omega)
              have E0:Hid (m = (wrN s i ++ unm s x.pk.pre x.pk.nm true ++ unm s x.pk.dep x.pk.nm false ++ cla s i x.pk.con 2 ++ claN s i x.pk.brk 3 k ++ claJ s i 3 k a 0).length ∧ XS = vcells (wrN s i ++ unm s x.pk.pre x.pk.nm true ++ unm s x.pk.dep x.pk.nm false ++ cla s i x.pk.con 2 ++ claN s i x.pk.brk 3 k ++ claJ s i 3 k a 0)):=by
               rw [show claJ s i 3 k a 0 = [] from rfl,List.append_nil]; exact E
              have hu:=hV0
              clear hcells hat hkl hlim hsucc ha hb2 i2 hV0 O E B I
              go_wp2_with fail
              clear hu x0 x1 x2
              go_loopg [6,135] n (fun gf s6 sj wx=>∃ (j m:Nat) (ra:Option Addr) (rc:Nat) (XS:List Value),s6 = .slice ra m rc ∧ sj = .int .i64 j ∧ Hid (wx.ownsRow wd.heap.size 43 5 (.slice ra m rc) m XS) ∧ Hid (m = (wrN s i ++ unm s x.pk.pre x.pk.nm true ++ unm s x.pk.dep x.pk.nm false ++ cla s i x.pk.con 2 ++ claN s i x.pk.brk 3 k ++ claJ s i 3 k a j).length ∧ XS = vcells (wrN s i ++ unm s x.pk.pre x.pk.nm true ++ unm s x.pk.dep x.pk.nm false ++ cla s i x.pk.con 2 ++ claN s i x.pk.brk 3 k ++ claJ s i 3 k a j)) ∧ Hid (Below wd.heap.size wd wx) ∧ Hid (Blk.Is wx bx 38 #[.string (S x.pk.nm),.string (S x.pk.vs),.slice a1 n1 c1,.slice a2 n2 c2,.slice a3 n3 c3,.slice a4 n4 c4,.slice (some ⟨kc,offc,none⟩) n5 c5,.slice a6 n6 c6,.bool x.pk.ess,.bool true,.bool x.hld]) ∧ Hid (Blk.Is wx ba 47 #[.string (S a.1),.int .i64 a.2.1,.string (S a.2.2)]) ∧ j ≤ n ∧ n ≤ j + gf)
              case atStart=>exact ⟨0,m,ra,rc,XS,rfl,rfl,O0,E0,B0,I0,A,by omega,by omega⟩
              case round =>
               clear O0 E0 B0 I0 A
               obtain ⟨j,m,ra,rc,XS,rfl,rfl,O,E,B,I,A,hjn,hfu4⟩:=hrel
               by_cases hjl:j < n
               ·obtain ⟨g4,rfl⟩:∃ g4,gk = g4 + 1:=⟨gk - 1,by omega⟩
                have hjl':(j:Int) < (n:Int):=by omega
                have hj0:(0:Int) ≤ j:=by omega
                have hjs:j < s.length:=by rw [HN.out]; exact hjl
                obtain ⟨_,a',cap',e1,_,hcells⟩:=H.out.below B.out
                rw [HN.out] at e1
                simp only [Value.slice.injEq,true_and] at e1
                obtain ⟨rfl,rfl⟩:=e1
                obtain ⟨kb,off,e1,hat⟩:=hcells (by omega)
                simp only [Option.some.injEq,Addr.mk.injEq,and_true] at e1
                obtain ⟨rfl,rfl⟩:=e1
                obtain ⟨b1,m1,d1,b2,m2,d2,b3,m3,d3,b4,m4,d4,b5,m5,d5,b6,m6,d6,⟨x0,x1,x2,x3,x4,x5,x6,x7,x8,x9,x10⟩,hh⟩:=en_read (hat j hjs)
                rw [Nat.mul_comm 11 j] at x0 x1 x2 x3 x4 x5 x6 x7 x8 x9 x10
                have hlim:=HL.out _ (mem_getD (z:=nEn) hjs)
                have hsucc:=claJ_succ s i 3 k a j
                have hhit:hit s i 3 a j = (!(decide (j = i) || (decide ((3:Int) = 3) && !(s.getD j nEn).cfg)) && sat (s.getD j nEn).pk a):=rfl
                have hone:cla1 s i 3 k a j = if hit s i 3 a j = true then [(3,(s.getD i nEn).pk.nm,false,(k:Int),(s.getD j nEn).pk.nm)] else []:=rfl
                rw [hone,HXX.out] at hsucc
                obtain ⟨y,hy⟩:∃ y,s.getD j nEn = y:=⟨_,rfl⟩
                rw [hy] at x0 x1 x8 x9 x10 hlim hh hsucc hhit
                have hb2:=(Below.refl wr.heap.size wr).alloc (Nat.le_refl _) (.cells #[.string (S y.pk.nm),.string (S y.pk.vs),.slice b1 m1 d1,.slice b2 m2 d2,.slice b3 m3 d3,.slice b4 m4 d4,.slice b5 m5 d5,.slice b6 m6 d6,.bool y.pk.ess,.bool y.cfg,.bool y.hld] 38)
                have i2:=Blk.Is.new wr 38 #[.string (S y.pk.nm),.string (S y.pk.vs),.slice b1 m1 d1,.slice b2 m2 d2,.slice b3 m3 d3,.slice b4 m4 d4,.slice b5 m5 d5,.slice b6 m6 d6,.bool y.pk.ess,.bool y.cfg,.bool y.hld]
                obtain ⟨by',hby⟩:∃ by',wr.heap.size = by':=⟨_,rfl⟩
                obtain ⟨V,hV⟩:∃ V,wr.alloc (.cells #[.string (S y.pk.nm),.string (S y.pk.vs),.slice b1 m1 d1,.slice b2 m2 d2,.slice b3 m3 d3,.slice b4 m4 d4,.slice b5 m5 d5,.slice b6 m6 d6,.bool y.pk.ess,.bool y.cfg,.bool y.hld] 38) = V:=⟨_,rfl⟩
                rw [hV] at hb2 i2
                rw [hby] at i2
                have O2:=Lib.hid (Own.owns_below O.out hb2)
                have B2:=Lib.hid (B.out.trans (hb2.mono B.out.size))
                have I2:=Lib.hid (Rl.is_on I.out hb2)
                have A2:=Lib.hid (Rl.is_on A.out hb2)
                clear O B I A
                have O:=O2
                have B:=B2
                have I:=I2
                have A:=A2
                clear O2 B2 I2 A2
                have dd0:=A.out.at (i:=0) rfl
                have dd1:=A.out.at (i:=1) rfl
                have dd2:=A.out.at (i:=2) rfl
                have z0:=i2.at (i:=0) rfl
                have z1:=i2.at (i:=1) rfl
                have z2:=i2.at (i:=2) rfl
                have z3:=i2.at (i:=3) rfl
                have z4:=i2.at (i:=4) rfl
                have z5:=i2.at (i:=5) rfl
                have z6:=i2.at (i:=6) rfl
                have z7:=i2.at (i:=7) rfl
                have z8:=i2.at (i:=8) rfl
                have z9:=i2.at (i:=9) rfl
                have cs:=ysat_any (.agg #[.string (S y.pk.nm),.string (S y.pk.vs),.slice b1 m1 d1,.slice b2 m2 d2,.slice b3 m3 d3,.slice b4 m4 d4,.slice b5 m5 d5,.slice b6 m6 d6,.bool y.pk.ess]) y.pk a V ⟨_,_,_,_,_,_,rfl,hh.below hb2⟩ hlim HLA.out
                unfold aV at cs
                have IY:=Lib.hid i2
                have HS:Hid (wrN s i ++ unm s x.pk.pre x.pk.nm true ++ unm s x.pk.dep x.pk.nm false ++ cla s i x.pk.con 2 ++ claN s i x.pk.brk 3 k ++ claJ s i 3 k a (j + 1) = (wrN s i ++ unm s x.pk.pre x.pk.nm true ++ unm s x.pk.dep x.pk.nm false ++ cla s i x.pk.con 2 ++ claN s i x.pk.brk 3 k ++ claJ s i 3 k a j) ++ (if hit s i 3 a j = true then [(3,x.pk.nm,false,(k:Int),y.pk.nm)] else [])):=by
                 refine Lib.hid ?_
                 rw [hsucc,← List.append_assoc]
                have HHIT:=Lib.hid hhit
                have hu:=hV
                clear hcells hat hjs hlim hsucc hhit hone hy hb2 i2 hV hh
                by_cases hjp:j = i
                ·have hj1:((j:Int) != (i:Int)) = false:=by simp [hjp]
                 have HJ:Hid (decide (j = i) = true):=decide_eq_true hjp
                 clear hjp
                 have HE2:Hid (m = (wrN s i ++ unm s x.pk.pre x.pk.nm true ++ unm s x.pk.dep x.pk.nm false ++ cla s i x.pk.con 2 ++ claN s i x.pk.brk 3 k ++ claJ s i 3 k a (j + 1)).length ∧ XS = vcells (wrN s i ++ unm s x.pk.pre x.pk.nm true ++ unm s x.pk.dep x.pk.nm false ++ cla s i x.pk.con 2 ++ claN s i x.pk.brk 3 k ++ claJ s i 3 k a (j + 1))):=by
                  rw [HS.out,HHIT.out]
                  simp only [HJ.out,Bool.true_or,Bool.not_true,Bool.false_and,Bool.false_eq_true,if_false,List.append_nil]
                  exact E
                 clear E HS HHIT cs
                 go_wp2_with fail
                 go_roundg g4
                 case measure=>omega
                 case rel=>exact ⟨j + 1,m,ra,rc,XS,rfl,by go_num,O,HE2,B,I,A,by omega,by omega⟩
                ·have hj1:((j:Int) != (i:Int)) = true:=by
                  rw [bne_iff_ne]; omega
                 have HJ:Hid (decide (j = i) = false):=decide_eq_false hjp
                 clear hjp
                 cases hcf:y.cfg with
                 | false =>
                  rw [hcf] at x9 z9 hu IY HHIT
                  have HE2:Hid (m = (wrN s i ++ unm s x.pk.pre x.pk.nm true ++ unm s x.pk.dep x.pk.nm false ++ cla s i x.pk.con 2 ++ claN s i x.pk.brk 3 k ++ claJ s i 3 k a (j + 1)).length ∧ XS = vcells (wrN s i ++ unm s x.pk.pre x.pk.nm true ++ unm s x.pk.dep x.pk.nm false ++ cla s i x.pk.con 2 ++ claN s i x.pk.brk 3 k ++ claJ s i 3 k a (j + 1))):=by
                   rw [HS.out,HHIT.out]
                   simp only [HJ.out,hcf,decide_false,decide_true,Bool.true_and,Bool.not_false,Bool.or_true,Bool.not_true,Bool.false_and,Bool.false_eq_true,if_false,List.append_nil]
                   exact E
                  clear E HS HHIT cs
                  go_wp2_with fail
                  go_roundg g4
                  case measure=>omega
                  case rel=>exact ⟨j + 1,m,ra,rc,XS,rfl,by go_num,O,HE2,B,I,A,by omega,by omega⟩
                 | true =>
                  rw [hcf] at x9 z9 hu IY HHIT
                  cases hs:sat y.pk a with
                  | false =>
                   rw [hs] at cs
                   have HE2:Hid (m = (wrN s i ++ unm s x.pk.pre x.pk.nm true ++ unm s x.pk.dep x.pk.nm false ++ cla s i x.pk.con 2 ++ claN s i x.pk.brk 3 k ++ claJ s i 3 k a (j + 1)).length ∧ XS = vcells (wrN s i ++ unm s x.pk.pre x.pk.nm true ++ unm s x.pk.dep x.pk.nm false ++ cla s i x.pk.con 2 ++ claN s i x.pk.brk 3 k ++ claJ s i 3 k a (j + 1))):=by
                    rw [HS.out,HHIT.out,hs]
                    simp only [Bool.and_false,Bool.false_eq_true,if_false,List.append_nil]
                    exact E
                   clear E HS HHIT hs
                   go_wp2_with fail
                   refine cs.mono ?_
                   rintro e w5 ⟨rfl,k5⟩
                   have O4:=Lib.hid (Own.owns_below O.out k5)
                   have B4:=Lib.hid (B.out.trans (k5.mono B.out.size))
                   have I4:=Lib.hid (Rl.is_on I.out k5)
                   have A4:=Lib.hid (Rl.is_on A.out k5)
                   clear cs k5 O B I A IY
                   go_wp2_with fail
                   go_roundg g4
                   case measure=>omega
                   case rel=>exact ⟨j + 1,m,ra,rc,XS,rfl,by go_num,O4,HE2,B4,I4,A4,by omega,by omega⟩
                  | true =>
                   rw [hs] at cs
                   have HE2:Hid (m + 1 = (wrN s i ++ unm s x.pk.pre x.pk.nm true ++ unm s x.pk.dep x.pk.nm false ++ cla s i x.pk.con 2 ++ claN s i x.pk.brk 3 k ++ claJ s i 3 k a (j + 1)).length ∧ XS ++ [.int .i64 3,.string (S x.pk.nm),.bool false,.int .i64 (k:Int),.string (S y.pk.nm)] = vcells (wrN s i ++ unm s x.pk.pre x.pk.nm true ++ unm s x.pk.dep x.pk.nm false ++ cla s i x.pk.con 2 ++ claN s i x.pk.brk 3 k ++ claJ s i 3 k a (j + 1))):=Lib.hid (by
                    rw [HS.out,HHIT.out,hs]
                    simp only [HJ.out,hcf,decide_false,decide_true,Bool.true_and,Bool.not_true,Bool.not_false,Bool.or_false,Bool.and_self,if_true]
                    rw [List.length_append,vcells_app,← E.out.1,← E.out.2]
                    exact ⟨rfl,rfl⟩)
                   have K70:Hid (m + 1 ≤ 70000):=Lib.hid (by
                    have h1:=E.out.1
                    have h2:=KM.out
                    have h5:=claJ_len s i 3 k a j
                    have h6:=HLEN.out
                    have h4:=PRE.out
                    simp only [List.length_append] at h1
                    have l1:=unm_len s x.pk.pre x.pk.nm true x.pk.pre.length; have f1:=FQ.out.pre; have l2:=unm_len s x.pk.dep x.pk.nm false x.pk.dep.length; have f2:=FQ.out.dep; have l3:=claN_len s i x.pk.con 2 x.pk.con.length; have f3:x.pk.con.length * s.length ≤ 50 * 26:=Nat.mul_le_mul FQ.out.con HLEN.out; (try unfold unm at h1); (try unfold cla at h1)
                    omega)
                   clear E HS HHIT hs
                   go_wp2_with fail
                   refine cs.mono ?_
                   rintro e w5 ⟨rfl,k5⟩
                   have O4:=Lib.hid (Own.owns_below O.out k5)
                   have B4:=Lib.hid (B.out.trans (k5.mono B.out.size))
                   have I4:=Lib.hid (Rl.is_on I.out k5)
                   have A4:=Lib.hid (Rl.is_on A.out k5)
                   have z0:=(Rl.is_on IY.out k5).at (i:=0) rfl
                   clear O B I A IY
                   have O:=O4
                   have B:=B4
                   have I:=I4
                   have A:=A4
                   clear cs k5 O4 B4 I4 A4
                   have hbA:=(Below.refl w5.heap.size w5).alloc (Nat.le_refl _) (.cells #[.int .i64 3,.string (S x.pk.nm),.bool false,.int .i64 (k:Int),.string (S y.pk.nm)] 43)
                   have iA:=Blk.Is.new w5 43 #[.int .i64 3,.string (S x.pk.nm),.bool false,.int .i64 (k:Int),.string (S y.pk.nm)]
                   obtain ⟨WA,hWA⟩:∃ WA,w5.alloc (.cells #[.int .i64 3,.string (S x.pk.nm),.bool false,.int .i64 (k:Int),.string (S y.pk.nm)] 43) = WA:=⟨_,rfl⟩
                   rw [hWA] at hbA iA
                   have OA:=Lib.hid (Own.owns_below O.out hbA)
                   have BA:=Lib.hid (B.out.trans (hbA.mono B.out.size))
                   have HCA:=Lib.hid iA
                   have HWA:=Lib.hid hWA
                   have ZA:=Lib.hid BA.out.size
                   have IA:=Lib.hid (Rl.is_on I.out hbA)
                   have AA:=Lib.hid (Rl.is_on A.out hbA)
                   clear hbA iA hWA O B I A
                   go_wp2_with (at_builtin; rw [HWA.out]; refine Rl.append_el Tryd.underlying27 infoVi rfl (by decide) rfl (.tmp 153) (.tmp 160) rfl wd.heap.size (.slice ra m rc) m XS rfl OA.out w5.heap.size 1 rfl [.int .i64 3,.string (S x.pk.nm),.bool false,.int .i64 (k:Int),.string (S y.pk.nm)] rfl (fun j u hj=>HCA.out.at (by rw [← Array.getElem?_toList]; exact hj)) (fun u hu=>by simp only [List.mem_cons,List.not_mem_nil,or_false] at hu; rcases hu with rfl | rfl | rfl | rfl | rfl <;> rfl) K70.out ZA.out ?_; intro v9 w9 h9 g9; have b9:=Own.below_grown BA.out OA.out g9 ZA.out; have c9:=Blk.Chg.grown (S:=fun q=>Value.ownBlock (.slice ra m rc) = some q) (Blk.Chg.refl _ _) g9 (fun q hq _=>hq); have I9:=Lib.hid (c9.is IA.out (not_row IA.out (by decide) OA.out)); have A9:=Lib.hid (c9.is AA.out (not_row AA.out (by decide) OA.out)); obtain ⟨a9,r9,rfl,_⟩:=Rl.own_shape h9; have O9:=Lib.hid h9; have B9:=Lib.hid b9; clear h9 g9 b9 c9)
                   go_roundg g4
                   case measure=>omega
                   case rel=>exact ⟨j + 1,m + 1,a9,r9,_,rfl,by go_num,O9,HE2,B9,I9,A9,by omega,by omega⟩
               ·have hge:¬ (j:Int) < (n:Int):=by omega
                obtain rfl:j = n:=by omega
                have HE2:Hid (m = (wrN s i ++ unm s x.pk.pre x.pk.nm true ++ unm s x.pk.dep x.pk.nm false ++ cla s i x.pk.con 2 ++ claN s i x.pk.brk 3 (k + 1)).length ∧ XS = vcells (wrN s i ++ unm s x.pk.pre x.pk.nm true ++ unm s x.pk.dep x.pk.nm false ++ cla s i x.pk.con 2 ++ claN s i x.pk.brk 3 (k + 1))):=by
                 rw [HSN.out,HN.out,← List.append_assoc]; exact E
                clear E A
                go_wp2_with fail
                go_roundg g3
                case measure=>omega
                case rel=>exact ⟨k + 1,m,ra,rc,XS,rfl,by go_num,O,HE2,B,I,by omega,by omega⟩
             ·obtain rfl:n5 = k:=by omega
              have hge:¬ (n5:Int) < (n5:Int):=by omega
              have E2:Hid (m = (wrN s i ++ unm s x.pk.pre x.pk.nm true ++ unm s x.pk.dep x.pk.nm false ++ cla s i x.pk.con 2 ++ cla s i x.pk.brk 3).length ∧ XS = vcells (wrN s i ++ unm s x.pk.pre x.pk.nm true ++ unm s x.pk.dep x.pk.nm false ++ cla s i x.pk.con 2 ++ cla s i x.pk.brk 3)):=by
               unfold cla
               rw [← HQ.out.brk]; exact E
              clear E
              have E:=E2
              clear E2 hfu3 hkn hge hlt
              have HE2:Hid (m = (wrN s (i + 1)).length ∧ XS = vcells (wrN s (i + 1))):=by
               have e:wrN s (i + 1) = wrN s i ++ unm s x.pk.pre x.pk.nm true ++ unm s x.pk.dep x.pk.nm false ++ cla s i x.pk.con 2 ++ cla s i x.pk.brk 3:=by rw [WSUCC.out]; simp only [if_true,List.append_assoc]
               rw [e]; exact E
              clear E I
              go_wp2_with fail
              go_roundg g'
              case measure=>omega
              case rel=>exact ⟨i + 1,m,ra,rc,XS,rfl,by go_num,O,HE2,B,by omega,by omega⟩
       | false =>
        rw [hcf] at I WSUCC
        clear hcf
        have v9:=I.out.at (i:=9) rfl
        have v5:=I.out.at (i:=5) rfl
        go_wp2_with fail
        clear v5 v9
        go_loopg [6,92] n4 (fun gf s6 sk wx=>∃ (k m:Nat) (ra:Option Addr) (rc:Nat) (XS:List Value),s6 = .slice ra m rc ∧ sk = .int .i64 k ∧ Hid (wx.ownsRow wd.heap.size 43 5 (.slice ra m rc) m XS) ∧ Hid (m = (wrN s i ++ unm s x.pk.pre x.pk.nm true ++ claN s i x.pk.con 2 k).length ∧ XS = vcells (wrN s i ++ unm s x.pk.pre x.pk.nm true ++ claN s i x.pk.con 2 k)) ∧ Hid (Below wd.heap.size wd wx) ∧ Hid (Blk.Is wx bx 38 #[.string (S x.pk.nm),.string (S x.pk.vs),.slice a1 n1 c1,.slice a2 n2 c2,.slice a3 n3 c3,.slice a4 n4 c4,.slice a5 n5 c5,.slice a6 n6 c6,.bool x.pk.ess,.bool false,.bool x.hld]) ∧ k ≤ n4 ∧ n4 ≤ k + gf)
        case atStart=>exact ⟨0,m,ra,rc,XS,rfl,rfl,O,Lib.hid (by rw [show claN s i x.pk.con 2 0 = [] from rfl,List.append_nil]; exact E.out),B,I,by omega,by omega⟩
        case round =>
         clear O E B I
         obtain ⟨k,m,ra,rc,XS,rfl,rfl,O,E,B,I,hkn,hfu3⟩:=hrel
         by_cases hlt:k < n4
         ·obtain ⟨g3,rfl⟩:∃ g3,gk = g3 + 1:=⟨gk - 1,by omega⟩
          have hlt':(k:Int) < (n4:Int):=by omega
          have hk0:(0:Int) ≤ k:=by omega
          have hkl:k < x.pk.con.length:=by rw [← HQ.out.con]; exact hlt
          obtain ⟨_,a',cap',e1,_,hcells⟩:=HH.out.con.below B.out
          rw [← HQ.out.con] at e1
          simp only [Value.slice.injEq,true_and] at e1
          obtain ⟨rfl,rfl⟩:=e1
          obtain ⟨kc,offc,rfl,hat⟩:=hcells (by omega)
          obtain ⟨x0,x1,x2⟩:=hat k hkl
          rw [Nat.mul_comm 3 k] at x0 x1 x2
          have hlim:=HLX.out.con _ (mem_getD (z:=nA) hkl)
          have hsucc:=claN_succ s i x.pk.con 2 k
          obtain ⟨a,ha⟩:∃ a,x.pk.con.getD k nA = a:=⟨_,rfl⟩
          rw [ha] at x0 x1 x2 hlim hsucc
          have hb2:=(Below.refl wr.heap.size wr).alloc (Nat.le_refl _) (.cells #[.string (S a.1),.int .i64 a.2.1,.string (S a.2.2)] 47)
          have i2:=Blk.Is.new wr 47 #[.string (S a.1),.int .i64 a.2.1,.string (S a.2.2)]
          obtain ⟨ba,hba⟩:∃ ba,wr.heap.size = ba:=⟨_,rfl⟩
          obtain ⟨V0,hV0⟩:∃ V0,wr.alloc (.cells #[.string (S a.1),.int .i64 a.2.1,.string (S a.2.2)] 47) = V0:=⟨_,rfl⟩
          rw [hV0] at hb2 i2
          rw [hba] at i2
          have O0:=Lib.hid (Own.owns_below O.out hb2)
          have B0:=Lib.hid (B.out.trans (hb2.mono B.out.size))
          have I0:=Lib.hid (Rl.is_on I.out hb2)
          have A:=Lib.hid i2
          have HLA:=Lib.hid hlim
          have HSN:=Lib.hid hsucc
          have KM:Hid ((claN s i x.pk.con 2 k).length ≤ 1300):=Lib.hid (by
           have h1:=claN_len s i x.pk.con 2 k
           have h2:k * s.length ≤ 50 * 26:=Nat.mul_le_mul (by have:=FQ.out.con; omega) HLEN.out
           omega)
          have E0:Hid (m = (wrN s i ++ unm s x.pk.pre x.pk.nm true ++ claN s i x.pk.con 2 k ++ claJ s i 2 k a 0).length ∧ XS = vcells (wrN s i ++ unm s x.pk.pre x.pk.nm true ++ claN s i x.pk.con 2 k ++ claJ s i 2 k a 0)):=by
           rw [show claJ s i 2 k a 0 = [] from rfl,List.append_nil]; exact E
          have hu:=hV0
          clear hcells hat hkl hlim hsucc ha hb2 i2 hV0 O E B I
          go_wp2_with fail
          clear hu x0 x1 x2
          go_loopg [6,99] n (fun gf s6 sj wx=>∃ (j m:Nat) (ra:Option Addr) (rc:Nat) (XS:List Value),s6 = .slice ra m rc ∧ sj = .int .i64 j ∧ Hid (wx.ownsRow wd.heap.size 43 5 (.slice ra m rc) m XS) ∧ Hid (m = (wrN s i ++ unm s x.pk.pre x.pk.nm true ++ claN s i x.pk.con 2 k ++ claJ s i 2 k a j).length ∧ XS = vcells (wrN s i ++ unm s x.pk.pre x.pk.nm true ++ claN s i x.pk.con 2 k ++ claJ s i 2 k a j)) ∧ Hid (Below wd.heap.size wd wx) ∧ Hid (Blk.Is wx bx 38 #[.string (S x.pk.nm),.string (S x.pk.vs),.slice a1 n1 c1,.slice a2 n2 c2,.slice a3 n3 c3,.slice (some ⟨kc,offc,none⟩) n4 c4,.slice a5 n5 c5,.slice a6 n6 c6,.bool x.pk.ess,.bool false,.bool x.hld]) ∧ Hid (Blk.Is wx ba 47 #[.string (S a.1),.int .i64 a.2.1,.string (S a.2.2)]) ∧ j ≤ n ∧ n ≤ j + gf)
          case atStart=>exact ⟨0,m,ra,rc,XS,rfl,rfl,O0,E0,B0,I0,A,by omega,by omega⟩
          case round =>
           clear O0 E0 B0 I0 A
           obtain ⟨j,m,ra,rc,XS,rfl,rfl,O,E,B,I,A,hjn,hfu4⟩:=hrel
           by_cases hjl:j < n
           ·obtain ⟨g4,rfl⟩:∃ g4,gk = g4 + 1:=⟨gk - 1,by omega⟩
            have hjl':(j:Int) < (n:Int):=by omega
            have hj0:(0:Int) ≤ j:=by omega
            have hjs:j < s.length:=by rw [HN.out]; exact hjl
            obtain ⟨_,a',cap',e1,_,hcells⟩:=H.out.below B.out
            rw [HN.out] at e1
            simp only [Value.slice.injEq,true_and] at e1
            obtain ⟨rfl,rfl⟩:=e1
            obtain ⟨kb,off,e1,hat⟩:=hcells (by omega)
            simp only [Option.some.injEq,Addr.mk.injEq,and_true] at e1
            obtain ⟨rfl,rfl⟩:=e1
            obtain ⟨b1,m1,d1,b2,m2,d2,b3,m3,d3,b4,m4,d4,b5,m5,d5,b6,m6,d6,⟨x0,x1,x2,x3,x4,x5,x6,x7,x8,x9,x10⟩,hh⟩:=en_read (hat j hjs)
            rw [Nat.mul_comm 11 j] at x0 x1 x2 x3 x4 x5 x6 x7 x8 x9 x10
            have hlim:=HL.out _ (mem_getD (z:=nEn) hjs)
            have hsucc:=claJ_succ s i 2 k a j
            have hhit:hit s i 2 a j = (!(decide (j = i) || (decide ((2:Int) = 3) && !(s.getD j nEn).cfg)) && sat (s.getD j nEn).pk a):=rfl
            have hone:cla1 s i 2 k a j = if hit s i 2 a j = true then [(2,(s.getD i nEn).pk.nm,false,(k:Int),(s.getD j nEn).pk.nm)] else []:=rfl
            rw [hone,HXX.out] at hsucc
            obtain ⟨y,hy⟩:∃ y,s.getD j nEn = y:=⟨_,rfl⟩
            rw [hy] at x0 x1 x8 x9 x10 hlim hh hsucc hhit
            have hb2:=(Below.refl wr.heap.size wr).alloc (Nat.le_refl _) (.cells #[.string (S y.pk.nm),.string (S y.pk.vs),.slice b1 m1 d1,.slice b2 m2 d2,.slice b3 m3 d3,.slice b4 m4 d4,.slice b5 m5 d5,.slice b6 m6 d6,.bool y.pk.ess,.bool y.cfg,.bool y.hld] 38)
            have i2:=Blk.Is.new wr 38 #[.string (S y.pk.nm),.string (S y.pk.vs),.slice b1 m1 d1,.slice b2 m2 d2,.slice b3 m3 d3,.slice b4 m4 d4,.slice b5 m5 d5,.slice b6 m6 d6,.bool y.pk.ess,.bool y.cfg,.bool y.hld]
            obtain ⟨by',hby⟩:∃ by',wr.heap.size = by':=⟨_,rfl⟩
            obtain ⟨V,hV⟩:∃ V,wr.alloc (.cells #[.string (S y.pk.nm),.string (S y.pk.vs),.slice b1 m1 d1,.slice b2 m2 d2,.slice b3 m3 d3,.slice b4 m4 d4,.slice b5 m5 d5,.slice b6 m6 d6,.bool y.pk.ess,.bool y.cfg,.bool y.hld] 38) = V:=⟨_,rfl⟩
            rw [hV] at hb2 i2
            rw [hby] at i2
            have O2:=Lib.hid (Own.owns_below O.out hb2)
            have B2:=Lib.hid (B.out.trans (hb2.mono B.out.size))
            have I2:=Lib.hid (Rl.is_on I.out hb2)
            have A2:=Lib.hid (Rl.is_on A.out hb2)
            clear O B I A
            have O:=O2
            have B:=B2
            have I:=I2
            have A:=A2
            clear O2 B2 I2 A2
            have dd0:=A.out.at (i:=0) rfl
            have dd1:=A.out.at (i:=1) rfl
            have dd2:=A.out.at (i:=2) rfl
            have z0:=i2.at (i:=0) rfl
            have z1:=i2.at (i:=1) rfl
            have z2:=i2.at (i:=2) rfl
            have z3:=i2.at (i:=3) rfl
            have z4:=i2.at (i:=4) rfl
            have z5:=i2.at (i:=5) rfl
            have z6:=i2.at (i:=6) rfl
            have z7:=i2.at (i:=7) rfl
            have z8:=i2.at (i:=8) rfl
            have z9:=i2.at (i:=9) rfl
            have cs:=ysat_any (.agg #[.string (S y.pk.nm),.string (S y.pk.vs),.slice b1 m1 d1,.slice b2 m2 d2,.slice b3 m3 d3,.slice b4 m4 d4,.slice b5 m5 d5,.slice b6 m6 d6,.bool y.pk.ess]) y.pk a V ⟨_,_,_,_,_,_,rfl,hh.below hb2⟩ hlim HLA.out
            unfold aV at cs
            have IY:=Lib.hid i2
            have HS:Hid (wrN s i ++ unm s x.pk.pre x.pk.nm true ++ claN s i x.pk.con 2 k ++ claJ s i 2 k a (j + 1) = (wrN s i ++ unm s x.pk.pre x.pk.nm true ++ claN s i x.pk.con 2 k ++ claJ s i 2 k a j) ++ (if hit s i 2 a j = true then [(2,x.pk.nm,false,(k:Int),y.pk.nm)] else [])):=by
             refine Lib.hid ?_
             rw [hsucc,← List.append_assoc]
            have HHIT:=Lib.hid hhit
            have hu:=hV
            clear hcells hat hjs hlim hsucc hhit hone hy hb2 i2 hV hh
            by_cases hjp:j = i
            ·have hj1:((j:Int) != (i:Int)) = false:=by simp [hjp]
             have HJ:Hid (decide (j = i) = true):=decide_eq_true hjp
             clear hjp
             have HE2:Hid (m = (wrN s i ++ unm s x.pk.pre x.pk.nm true ++ claN s i x.pk.con 2 k ++ claJ s i 2 k a (j + 1)).length ∧ XS = vcells (wrN s i ++ unm s x.pk.pre x.pk.nm true ++ claN s i x.pk.con 2 k ++ claJ s i 2 k a (j + 1))):=by
              rw [HS.out,HHIT.out]
              simp only [HJ.out,Bool.true_or,Bool.not_true,Bool.false_and,Bool.false_eq_true,if_false,List.append_nil]
              exact E
             clear E HS HHIT cs
             go_wp2_with fail
             go_roundg g4
             case measure=>omega
             case rel=>exact ⟨j + 1,m,ra,rc,XS,rfl,by go_num,O,HE2,B,I,A,by omega,by omega⟩
            ·have hj1:((j:Int) != (i:Int)) = true:=by
              rw [bne_iff_ne]; omega
             have HJ:Hid (decide (j = i) = false):=decide_eq_false hjp
             clear hjp
             cases hs:sat y.pk a with
             | false =>
              rw [hs] at cs
              have HE2:Hid (m = (wrN s i ++ unm s x.pk.pre x.pk.nm true ++ claN s i x.pk.con 2 k ++ claJ s i 2 k a (j + 1)).length ∧ XS = vcells (wrN s i ++ unm s x.pk.pre x.pk.nm true ++ claN s i x.pk.con 2 k ++ claJ s i 2 k a (j + 1))):=by
               rw [HS.out,HHIT.out,hs]
               simp only [Bool.and_false,Bool.false_eq_true,if_false,List.append_nil]
               exact E
              clear E HS HHIT hs
              go_wp2_with fail
              refine cs.mono ?_
              rintro e w5 ⟨rfl,k5⟩
              have O4:=Lib.hid (Own.owns_below O.out k5)
              have B4:=Lib.hid (B.out.trans (k5.mono B.out.size))
              have I4:=Lib.hid (Rl.is_on I.out k5)
              have A4:=Lib.hid (Rl.is_on A.out k5)
              clear cs k5 O B I A IY
              go_wp2_with fail
              go_roundg g4
              case measure=>omega
              case rel=>exact ⟨j + 1,m,ra,rc,XS,rfl,by go_num,O4,HE2,B4,I4,A4,by omega,by omega⟩
             | true =>
              rw [hs] at cs
              have HE2:Hid (m + 1 = (wrN s i ++ unm s x.pk.pre x.pk.nm true ++ claN s i x.pk.con 2 k ++ claJ s i 2 k a (j + 1)).length ∧ XS ++ [.int .i64 2,.string (S x.pk.nm),.bool false,.int .i64 (k:Int),.string (S y.pk.nm)] = vcells (wrN s i ++ unm s x.pk.pre x.pk.nm true ++ claN s i x.pk.con 2 k ++ claJ s i 2 k a (j + 1))):=Lib.hid (by
               rw [HS.out,HHIT.out,hs]
               simp only [HJ.out,decide_false,Bool.false_or,Bool.not_false,Bool.true_and,Bool.and_self,Bool.false_and,if_true,show decide ((2:Int) = 3) = false from rfl]
               rw [List.length_append,vcells_app,← E.out.1,← E.out.2]
               exact ⟨rfl,rfl⟩)
              have K70:Hid (m + 1 ≤ 70000):=Lib.hid (by
               have h1:=E.out.1
               have h2:=KM.out
               have h5:=claJ_len s i 2 k a j
               have h6:=HLEN.out
               have h4:=PRE.out
               simp only [List.length_append] at h1
               have l1:=unm_len s x.pk.pre x.pk.nm true x.pk.pre.length; have f1:=FQ.out.pre; have l2:=unm_len s x.pk.dep x.pk.nm false x.pk.dep.length; have f2:=FQ.out.dep; have l3:=claN_len s i x.pk.con 2 x.pk.con.length; have f3:x.pk.con.length * s.length ≤ 50 * 26:=Nat.mul_le_mul FQ.out.con HLEN.out; (try unfold unm at h1); (try unfold cla at h1)
               omega)
              clear E HS HHIT hs
              go_wp2_with fail
              refine cs.mono ?_
              rintro e w5 ⟨rfl,k5⟩
              have O4:=Lib.hid (Own.owns_below O.out k5)
              have B4:=Lib.hid (B.out.trans (k5.mono B.out.size))
              have I4:=Lib.hid (Rl.is_on I.out k5)
              have A4:=Lib.hid (Rl.is_on A.out k5)
              have z0:=(Rl.is_on IY.out k5).at (i:=0) rfl
              clear O B I A IY
              have O:=O4
              have B:=B4
              have I:=I4
              have A:=A4
              clear cs k5 O4 B4 I4 A4
              have hbA:=(Below.refl w5.heap.size w5).alloc (Nat.le_refl _) (.cells #[.int .i64 2,.string (S x.pk.nm),.bool false,.int .i64 (k:Int),.string (S y.pk.nm)] 43)
              have iA:=Blk.Is.new w5 43 #[.int .i64 2,.string (S x.pk.nm),.bool false,.int .i64 (k:Int),.string (S y.pk.nm)]
              obtain ⟨WA,hWA⟩:∃ WA,w5.alloc (.cells #[.int .i64 2,.string (S x.pk.nm),.bool false,.int .i64 (k:Int),.string (S y.pk.nm)] 43) = WA:=⟨_,rfl⟩
              rw [hWA] at hbA iA
              have OA:=Lib.hid (Own.owns_below O.out hbA)
              have BA:=Lib.hid (B.out.trans (hbA.mono B.out.size))
              have HCA:=Lib.hid iA
              have HWA:=Lib.hid hWA
              have ZA:=Lib.hid BA.out.size
              have IA:=Lib.hid (Rl.is_on I.out hbA)
              have AA:=Lib.hid (Rl.is_on A.out hbA)
              clear hbA iA hWA O B I A
              go_wp2_with (at_builtin; rw [HWA.out]; refine Rl.append_el Tryd.underlying27 infoVi rfl (by decide) rfl (.tmp 113) (.tmp 120) rfl wd.heap.size (.slice ra m rc) m XS rfl OA.out w5.heap.size 1 rfl [.int .i64 2,.string (S x.pk.nm),.bool false,.int .i64 (k:Int),.string (S y.pk.nm)] rfl (fun j u hj=>HCA.out.at (by rw [← Array.getElem?_toList]; exact hj)) (fun u hu=>by simp only [List.mem_cons,List.not_mem_nil,or_false] at hu; rcases hu with rfl | rfl | rfl | rfl | rfl <;> rfl) K70.out ZA.out ?_; intro v9 w9 h9 g9; have b9:=Own.below_grown BA.out OA.out g9 ZA.out; have c9:=Blk.Chg.grown (S:=fun q=>Value.ownBlock (.slice ra m rc) = some q) (Blk.Chg.refl _ _) g9 (fun q hq _=>hq); have I9:=Lib.hid (c9.is IA.out (not_row IA.out (by decide) OA.out)); have A9:=Lib.hid (c9.is AA.out (not_row AA.out (by decide) OA.out)); obtain ⟨a9,r9,rfl,_⟩:=Rl.own_shape h9; have O9:=Lib.hid h9; have B9:=Lib.hid b9; clear h9 g9 b9 c9)
              go_roundg g4
              case measure=>omega
              case rel=>exact ⟨j + 1,m + 1,a9,r9,_,rfl,by go_num,O9,HE2,B9,I9,A9,by omega,by omega⟩
           ·have hge:¬ (j:Int) < (n:Int):=by omega
            obtain rfl:j = n:=by omega
            have HE2:Hid (m = (wrN s i ++ unm s x.pk.pre x.pk.nm true ++ claN s i x.pk.con 2 (k + 1)).length ∧ XS = vcells (wrN s i ++ unm s x.pk.pre x.pk.nm true ++ claN s i x.pk.con 2 (k + 1))):=by
             rw [HSN.out,HN.out,← List.append_assoc]; exact E
            clear E A
            go_wp2_with fail
            go_roundg g3
            case measure=>omega
            case rel=>exact ⟨k + 1,m,ra,rc,XS,rfl,by go_num,O,HE2,B,I,by omega,by omega⟩
         ·obtain rfl:n4 = k:=by omega
          have hge:¬ (n4:Int) < (n4:Int):=by omega
          have E2:Hid (m = (wrN s i ++ unm s x.pk.pre x.pk.nm true ++ cla s i x.pk.con 2).length ∧ XS = vcells (wrN s i ++ unm s x.pk.pre x.pk.nm true ++ cla s i x.pk.con 2)):=by
           unfold cla
           rw [← HQ.out.con]; exact E
          clear E
          have E:=E2
          clear E2 hfu3 hkn hge hlt
          have v6:=I.out.at (i:=6) rfl
          go_wp2_with fail
          clear v6
          go_loopg [6,128] n5 (fun gf s6 sk wx=>∃ (k m:Nat) (ra:Option Addr) (rc:Nat) (XS:List Value),s6 = .slice ra m rc ∧ sk = .int .i64 k ∧ Hid (wx.ownsRow wd.heap.size 43 5 (.slice ra m rc) m XS) ∧ Hid (m = (wrN s i ++ unm s x.pk.pre x.pk.nm true ++ cla s i x.pk.con 2 ++ claN s i x.pk.brk 3 k).length ∧ XS = vcells (wrN s i ++ unm s x.pk.pre x.pk.nm true ++ cla s i x.pk.con 2 ++ claN s i x.pk.brk 3 k)) ∧ Hid (Below wd.heap.size wd wx) ∧ Hid (Blk.Is wx bx 38 #[.string (S x.pk.nm),.string (S x.pk.vs),.slice a1 n1 c1,.slice a2 n2 c2,.slice a3 n3 c3,.slice a4 n4 c4,.slice a5 n5 c5,.slice a6 n6 c6,.bool x.pk.ess,.bool false,.bool x.hld]) ∧ k ≤ n5 ∧ n5 ≤ k + gf)
          case atStart=>exact ⟨0,m,ra,rc,XS,rfl,rfl,O,Lib.hid (by rw [show claN s i x.pk.brk 3 0 = [] from rfl,List.append_nil]; exact E.out),B,I,by omega,by omega⟩
          case round =>
           clear O E B I
           obtain ⟨k,m,ra,rc,XS,rfl,rfl,O,E,B,I,hkn,hfu3⟩:=hrel
           by_cases hlt:k < n5
           ·obtain ⟨g3,rfl⟩:∃ g3,gk = g3 + 1:=⟨gk - 1,by omega⟩
            have hlt':(k:Int) < (n5:Int):=by omega
            have hk0:(0:Int) ≤ k:=by omega
            have hkl:k < x.pk.brk.length:=by rw [← HQ.out.brk]; exact hlt
            obtain ⟨_,a',cap',e1,_,hcells⟩:=HH.out.brk.below B.out
            rw [← HQ.out.brk] at e1
            simp only [Value.slice.injEq,true_and] at e1
            obtain ⟨rfl,rfl⟩:=e1
            obtain ⟨kc,offc,rfl,hat⟩:=hcells (by omega)
            obtain ⟨x0,x1,x2⟩:=hat k hkl
            rw [Nat.mul_comm 3 k] at x0 x1 x2
            have hlim:=HLX.out.brk _ (mem_getD (z:=nA) hkl)
            have hsucc:=claN_succ s i x.pk.brk 3 k
            obtain ⟨a,ha⟩:∃ a,x.pk.brk.getD k nA = a:=⟨_,rfl⟩
            rw [ha] at x0 x1 x2 hlim hsucc
            have hb2:=(Below.refl wr.heap.size wr).alloc (Nat.le_refl _) (.cells #[.string (S a.1),.int .i64 a.2.1,.string (S a.2.2)] 47)
            have i2:=Blk.Is.new wr 47 #[.string (S a.1),.int .i64 a.2.1,.string (S a.2.2)]
            obtain ⟨ba,hba⟩:∃ ba,wr.heap.size = ba:=⟨_,rfl⟩
            obtain ⟨V0,hV0⟩:∃ V0,wr.alloc (.cells #[.string (S a.1),.int .i64 a.2.1,.string (S a.2.2)] 47) = V0:=⟨_,rfl⟩
            rw [hV0] at hb2 i2
            rw [hba] at i2
            have O0:=Lib.hid (Own.owns_below O.out hb2)
            have B0:=Lib.hid (B.out.trans (hb2.mono B.out.size))
            have I0:=Lib.hid (Rl.is_on I.out hb2)
            have A:=Lib.hid i2
            have HLA:=Lib.hid hlim
            have HSN:=Lib.hid hsucc
            have KM:Hid ((claN s i x.pk.brk 3 k).length ≤ 1300):=Lib.hid (by
             have h1:=claN_len s i x.pk.brk 3 k
             have h2:k * s.length ≤ 50 * 26:=Nat.mul_le_mul (by have:=FQ.out.brk; omega) HLEN.out
             omega)
            have E0:Hid (m = (wrN s i ++ unm s x.pk.pre x.pk.nm true ++ cla s i x.pk.con 2 ++ claN s i x.pk.brk 3 k ++ claJ s i 3 k a 0).length ∧ XS = vcells (wrN s i ++ unm s x.pk.pre x.pk.nm true ++ cla s i x.pk.con 2 ++ claN s i x.pk.brk 3 k ++ claJ s i 3 k a 0)):=by
             rw [show claJ s i 3 k a 0 = [] from rfl,List.append_nil]; exact E
            have hu:=hV0
            clear hcells hat hkl hlim hsucc ha hb2 i2 hV0 O E B I
            go_wp2_with fail
            clear hu x0 x1 x2
            go_loopg [6,135] n (fun gf s6 sj wx=>∃ (j m:Nat) (ra:Option Addr) (rc:Nat) (XS:List Value),s6 = .slice ra m rc ∧ sj = .int .i64 j ∧ Hid (wx.ownsRow wd.heap.size 43 5 (.slice ra m rc) m XS) ∧ Hid (m = (wrN s i ++ unm s x.pk.pre x.pk.nm true ++ cla s i x.pk.con 2 ++ claN s i x.pk.brk 3 k ++ claJ s i 3 k a j).length ∧ XS = vcells (wrN s i ++ unm s x.pk.pre x.pk.nm true ++ cla s i x.pk.con 2 ++ claN s i x.pk.brk 3 k ++ claJ s i 3 k a j)) ∧ Hid (Below wd.heap.size wd wx) ∧ Hid (Blk.Is wx bx 38 #[.string (S x.pk.nm),.string (S x.pk.vs),.slice a1 n1 c1,.slice a2 n2 c2,.slice a3 n3 c3,.slice a4 n4 c4,.slice (some ⟨kc,offc,none⟩) n5 c5,.slice a6 n6 c6,.bool x.pk.ess,.bool false,.bool x.hld]) ∧ Hid (Blk.Is wx ba 47 #[.string (S a.1),.int .i64 a.2.1,.string (S a.2.2)]) ∧ j ≤ n ∧ n ≤ j + gf)
            case atStart=>exact ⟨0,m,ra,rc,XS,rfl,rfl,O0,E0,B0,I0,A,by omega,by omega⟩
            case round =>
             clear O0 E0 B0 I0 A
             obtain ⟨j,m,ra,rc,XS,rfl,rfl,O,E,B,I,A,hjn,hfu4⟩:=hrel
             by_cases hjl:j < n
             ·obtain ⟨g4,rfl⟩:∃ g4,gk = g4 + 1:=⟨gk - 1,by omega⟩
              have hjl':(j:Int) < (n:Int):=by omega
              have hj0:(0:Int) ≤ j:=by omega
              have hjs:j < s.length:=by rw [HN.out]; exact hjl
              obtain ⟨_,a',cap',e1,_,hcells⟩:=H.out.below B.out
              rw [HN.out] at e1
              simp only [Value.slice.injEq,true_and] at e1
              obtain ⟨rfl,rfl⟩:=e1
              obtain ⟨kb,off,e1,hat⟩:=hcells (by omega)
              simp only [Option.some.injEq,Addr.mk.injEq,and_true] at e1
              obtain ⟨rfl,rfl⟩:=e1
              obtain ⟨b1,m1,d1,b2,m2,d2,b3,m3,d3,b4,m4,d4,b5,m5,d5,b6,m6,d6,⟨x0,x1,x2,x3,x4,x5,x6,x7,x8,x9,x10⟩,hh⟩:=en_read (hat j hjs)
              rw [Nat.mul_comm 11 j] at x0 x1 x2 x3 x4 x5 x6 x7 x8 x9 x10
              have hlim:=HL.out _ (mem_getD (z:=nEn) hjs)
              have hsucc:=claJ_succ s i 3 k a j
              have hhit:hit s i 3 a j = (!(decide (j = i) || (decide ((3:Int) = 3) && !(s.getD j nEn).cfg)) && sat (s.getD j nEn).pk a):=rfl
              have hone:cla1 s i 3 k a j = if hit s i 3 a j = true then [(3,(s.getD i nEn).pk.nm,false,(k:Int),(s.getD j nEn).pk.nm)] else []:=rfl
              rw [hone,HXX.out] at hsucc
              obtain ⟨y,hy⟩:∃ y,s.getD j nEn = y:=⟨_,rfl⟩
              rw [hy] at x0 x1 x8 x9 x10 hlim hh hsucc hhit
              have hb2:=(Below.refl wr.heap.size wr).alloc (Nat.le_refl _) (.cells #[.string (S y.pk.nm),.string (S y.pk.vs),.slice b1 m1 d1,.slice b2 m2 d2,.slice b3 m3 d3,.slice b4 m4 d4,.slice b5 m5 d5,.slice b6 m6 d6,.bool y.pk.ess,.bool y.cfg,.bool y.hld] 38)
              have i2:=Blk.Is.new wr 38 #[.string (S y.pk.nm),.string (S y.pk.vs),.slice b1 m1 d1,.slice b2 m2 d2,.slice b3 m3 d3,.slice b4 m4 d4,.slice b5 m5 d5,.slice b6 m6 d6,.bool y.pk.ess,.bool y.cfg,.bool y.hld]
              obtain ⟨by',hby⟩:∃ by',wr.heap.size = by':=⟨_,rfl⟩
              obtain ⟨V,hV⟩:∃ V,wr.alloc (.cells #[.string (S y.pk.nm),.string (S y.pk.vs),.slice b1 m1 d1,.slice b2 m2 d2,.slice b3 m3 d3,.slice b4 m4 d4,.slice b5 m5 d5,.slice b6 m6 d6,.bool y.pk.ess,.bool y.cfg,.bool y.hld] 38) = V:=⟨_,rfl⟩
              rw [hV] at hb2 i2
              rw [hby] at i2
              have O2:=Lib.hid (Own.owns_below O.out hb2)
              have B2:=Lib.hid (B.out.trans (hb2.mono B.out.size))
              have I2:=Lib.hid (Rl.is_on I.out hb2)
              have A2:=Lib.hid (Rl.is_on A.out hb2)
              clear O B I A
              have O:=O2
              have B:=B2
              have I:=I2
              have A:=A2
              clear O2 B2 I2 A2
              have dd0:=A.out.at (i:=0) rfl
              have dd1:=A.out.at (i:=1) rfl
              have dd2:=A.out.at (i:=2) rfl
              have z0:=i2.at (i:=0) rfl
              have z1:=i2.at (i:=1) rfl
              have z2:=i2.at (i:=2) rfl
              have z3:=i2.at (i:=3) rfl
              have z4:=i2.at (i:=4) rfl
              have z5:=i2.at (i:=5) rfl
              have z6:=i2.at (i:=6) rfl
              have z7:=i2.at (i:=7) rfl
              have z8:=i2.at (i:=8) rfl
              have z9:=i2.at (i:=9) rfl
              have cs:=ysat_any (.agg #[.string (S y.pk.nm),.string (S y.pk.vs),.slice b1 m1 d1,.slice b2 m2 d2,.slice b3 m3 d3,.slice b4 m4 d4,.slice b5 m5 d5,.slice b6 m6 d6,.bool y.pk.ess]) y.pk a V ⟨_,_,_,_,_,_,rfl,hh.below hb2⟩ hlim HLA.out
              unfold aV at cs
              have IY:=Lib.hid i2
              have HS:Hid (wrN s i ++ unm s x.pk.pre x.pk.nm true ++ cla s i x.pk.con 2 ++ claN s i x.pk.brk 3 k ++ claJ s i 3 k a (j + 1) = (wrN s i ++ unm s x.pk.pre x.pk.nm true ++ cla s i x.pk.con 2 ++ claN s i x.pk.brk 3 k ++ claJ s i 3 k a j) ++ (if hit s i 3 a j = true then [(3,x.pk.nm,false,(k:Int),y.pk.nm)] else [])):=by
               refine Lib.hid ?_
               rw [hsucc,← List.append_assoc]
              have HHIT:=Lib.hid hhit
              have hu:=hV
              clear hcells hat hjs hlim hsucc hhit hone hy hb2 i2 hV hh
              by_cases hjp:j = i
              ·have hj1:((j:Int) != (i:Int)) = false:=by simp [hjp]
               have HJ:Hid (decide (j = i) = true):=decide_eq_true hjp
               clear hjp
               have HE2:Hid (m = (wrN s i ++ unm s x.pk.pre x.pk.nm true ++ cla s i x.pk.con 2 ++ claN s i x.pk.brk 3 k ++ claJ s i 3 k a (j + 1)).length ∧ XS = vcells (wrN s i ++ unm s x.pk.pre x.pk.nm true ++ cla s i x.pk.con 2 ++ claN s i x.pk.brk 3 k ++ claJ s i 3 k a (j + 1))):=by
                rw [HS.out,HHIT.out]
                simp only [HJ.out,Bool.true_or,Bool.not_true,Bool.false_and,Bool.false_eq_true,if_false,List.append_nil]
                exact E
               clear E HS HHIT cs
               go_wp2_with fail
               go_roundg g4
               case measure=>omega
               case rel=>exact ⟨j + 1,m,ra,rc,XS,rfl,by go_num,O,HE2,B,I,A,by omega,by omega⟩
              ·have hj1:((j:Int) != (i:Int)) = true:=by
                rw [bne_iff_ne]; omega
               have HJ:Hid (decide (j = i) = false):=decide_eq_false hjp
               clear hjp
               cases hcf:y.cfg with
               | false =>
                rw [hcf] at x9 z9 hu IY HHIT
                have HE2:Hid (m = (wrN s i ++ unm s x.pk.pre x.pk.nm true ++ cla s i x.pk.con 2 ++ claN s i x.pk.brk 3 k ++ claJ s i 3 k a (j + 1)).length ∧ XS = vcells (wrN s i ++ unm s x.pk.pre x.pk.nm true ++ cla s i x.pk.con 2 ++ claN s i x.pk.brk 3 k ++ claJ s i 3 k a (j + 1))):=by
                 rw [HS.out,HHIT.out]
                 simp only [HJ.out,hcf,decide_false,decide_true,Bool.true_and,Bool.not_false,Bool.or_true,Bool.not_true,Bool.false_and,Bool.false_eq_true,if_false,List.append_nil]
                 exact E
                clear E HS HHIT cs
                go_wp2_with fail
                go_roundg g4
                case measure=>omega
                case rel=>exact ⟨j + 1,m,ra,rc,XS,rfl,by go_num,O,HE2,B,I,A,by omega,by omega⟩
               | true =>
                rw [hcf] at x9 z9 hu IY HHIT
                cases hs:sat y.pk a with
                | false =>
                 rw [hs] at cs
                 have HE2:Hid (m = (wrN s i ++ unm s x.pk.pre x.pk.nm true ++ cla s i x.pk.con 2 ++ claN s i x.pk.brk 3 k ++ claJ s i 3 k a (j + 1)).length ∧ XS = vcells (wrN s i ++ unm s x.pk.pre x.pk.nm true ++ cla s i x.pk.con 2 ++ claN s i x.pk.brk 3 k ++ claJ s i 3 k a (j + 1))):=by
                  rw [HS.out,HHIT.out,hs]
                  simp only [Bool.and_false,Bool.false_eq_true,if_false,List.append_nil]
                  exact E
                 clear E HS HHIT hs
                 go_wp2_with fail
                 refine cs.mono ?_
                 rintro e w5 ⟨rfl,k5⟩
                 have O4:=Lib.hid (Own.owns_below O.out k5)
                 have B4:=Lib.hid (B.out.trans (k5.mono B.out.size))
                 have I4:=Lib.hid (Rl.is_on I.out k5)
                 have A4:=Lib.hid (Rl.is_on A.out k5)
                 clear cs k5 O B I A IY
                 go_wp2_with fail
                 go_roundg g4
                 case measure=>omega
                 case rel=>exact ⟨j + 1,m,ra,rc,XS,rfl,by go_num,O4,HE2,B4,I4,A4,by omega,by omega⟩
                | true =>
                 rw [hs] at cs
                 have HE2:Hid (m + 1 = (wrN s i ++ unm s x.pk.pre x.pk.nm true ++ cla s i x.pk.con 2 ++ claN s i x.pk.brk 3 k ++ claJ s i 3 k a (j + 1)).length ∧ XS ++ [.int .i64 3,.string (S x.pk.nm),.bool false,.int .i64 (k:Int),.string (S y.pk.nm)] = vcells (wrN s i ++ unm s x.pk.pre x.pk.nm true ++ cla s i x.pk.con 2 ++ claN s i x.pk.brk 3 k ++ claJ s i 3 k a (j + 1))):=Lib.hid (by
                  rw [HS.out,HHIT.out,hs]
                  simp only [HJ.out,hcf,decide_false,decide_true,Bool.true_and,Bool.not_true,Bool.not_false,Bool.or_false,Bool.and_self,if_true]
                  rw [List.length_append,vcells_app,← E.out.1,← E.out.2]
                  exact ⟨rfl,rfl⟩)
                 have K70:Hid (m + 1 ≤ 70000):=Lib.hid (by
                  have h1:=E.out.1
                  have h2:=KM.out
                  have h5:=claJ_len s i 3 k a j
                  have h6:=HLEN.out
                  have h4:=PRE.out
                  simp only [List.length_append] at h1
                  have l1:=unm_len s x.pk.pre x.pk.nm true x.pk.pre.length; have f1:=FQ.out.pre; have l2:=unm_len s x.pk.dep x.pk.nm false x.pk.dep.length; have f2:=FQ.out.dep; have l3:=claN_len s i x.pk.con 2 x.pk.con.length; have f3:x.pk.con.length * s.length ≤ 50 * 26:=Nat.mul_le_mul FQ.out.con HLEN.out; (try unfold unm at h1); (try unfold cla at h1)
                  omega)
                 clear E HS HHIT hs
                 go_wp2_with fail
                 refine cs.mono ?_
                 rintro e w5 ⟨rfl,k5⟩
                 have O4:=Lib.hid (Own.owns_below O.out k5)
                 have B4:=Lib.hid (B.out.trans (k5.mono B.out.size))
                 have I4:=Lib.hid (Rl.is_on I.out k5)
                 have A4:=Lib.hid (Rl.is_on A.out k5)
                 have z0:=(Rl.is_on IY.out k5).at (i:=0) rfl
                 clear O B I A IY
                 have O:=O4
                 have B:=B4
                 have I:=I4
                 have A:=A4
                 clear cs k5 O4 B4 I4 A4
                 have hbA:=(Below.refl w5.heap.size w5).alloc (Nat.le_refl _) (.cells #[.int .i64 3,.string (S x.pk.nm),.bool false,.int .i64 (k:Int),.string (S y.pk.nm)] 43)
                 have iA:=Blk.Is.new w5 43 #[.int .i64 3,.string (S x.pk.nm),.bool false,.int .i64 (k:Int),.string (S y.pk.nm)]
                 obtain ⟨WA,hWA⟩:∃ WA,w5.alloc (.cells #[.int .i64 3,.string (S x.pk.nm),.bool false,.int .i64 (k:Int),.string (S y.pk.nm)] 43) = WA:=⟨_,rfl⟩
                 rw [hWA] at hbA iA
                 have OA:=Lib.hid (Own.owns_below O.out hbA)
                 have BA:=Lib.hid (B.out.trans (hbA.mono B.out.size))
                 have HCA:=Lib.hid iA
                 have HWA:=Lib.hid hWA
                 have ZA:=Lib.hid BA.out.size
                 have IA:=Lib.hid (Rl.is_on I.out hbA)
                 have AA:=Lib.hid (Rl.is_on A.out hbA)
                 clear hbA iA hWA O B I A
                 go_wp2_with (at_builtin; rw [HWA.out]; refine Rl.append_el Tryd.underlying27 infoVi rfl (by decide) rfl (.tmp 153) (.tmp 160) rfl wd.heap.size (.slice ra m rc) m XS rfl OA.out w5.heap.size 1 rfl [.int .i64 3,.string (S x.pk.nm),.bool false,.int .i64 (k:Int),.string (S y.pk.nm)] rfl (fun j u hj=>HCA.out.at (by rw [← Array.getElem?_toList]; exact hj)) (fun u hu=>by simp only [List.mem_cons,List.not_mem_nil,or_false] at hu; rcases hu with rfl | rfl | rfl | rfl | rfl <;> rfl) K70.out ZA.out ?_; intro v9 w9 h9 g9; have b9:=Own.below_grown BA.out OA.out g9 ZA.out; have c9:=Blk.Chg.grown (S:=fun q=>Value.ownBlock (.slice ra m rc) = some q) (Blk.Chg.refl _ _) g9 (fun q hq _=>hq); have I9:=Lib.hid (c9.is IA.out (not_row IA.out (by decide) OA.out)); have A9:=Lib.hid (c9.is AA.out (not_row AA.out (by decide) OA.out)); obtain ⟨a9,r9,rfl,_⟩:=Rl.own_shape h9; have O9:=Lib.hid h9; have B9:=Lib.hid b9; clear h9 g9 b9 c9)
                 go_roundg g4
                 case measure=>omega
                 case rel=>exact ⟨j + 1,m + 1,a9,r9,_,rfl,by go_num,O9,HE2,B9,I9,A9,by omega,by omega⟩
             ·have hge:¬ (j:Int) < (n:Int):=by omega
              obtain rfl:j = n:=by omega
              have HE2:Hid (m = (wrN s i ++ unm s x.pk.pre x.pk.nm true ++ cla s i x.pk.con 2 ++ claN s i x.pk.brk 3 (k + 1)).length ∧ XS = vcells (wrN s i ++ unm s x.pk.pre x.pk.nm true ++ cla s i x.pk.con 2 ++ claN s i x.pk.brk 3 (k + 1))):=by
               rw [HSN.out,HN.out,← List.append_assoc]; exact E
              clear E A
              go_wp2_with fail
              go_roundg g3
              case measure=>omega
              case rel=>exact ⟨k + 1,m,ra,rc,XS,rfl,by go_num,O,HE2,B,I,by omega,by omega⟩
           ·obtain rfl:n5 = k:=by omega
            have hge:¬ (n5:Int) < (n5:Int):=by omega
            have E2:Hid (m = (wrN s i ++ unm s x.pk.pre x.pk.nm true ++ cla s i x.pk.con 2 ++ cla s i x.pk.brk 3).length ∧ XS = vcells (wrN s i ++ unm s x.pk.pre x.pk.nm true ++ cla s i x.pk.con 2 ++ cla s i x.pk.brk 3)):=by
             unfold cla
             rw [← HQ.out.brk]; exact E
            clear E
            have E:=E2
            clear E2 hfu3 hkn hge hlt
            have HE2:Hid (m = (wrN s (i + 1)).length ∧ XS = vcells (wrN s (i + 1))):=by
             have e:wrN s (i + 1) = wrN s i ++ unm s x.pk.pre x.pk.nm true ++ cla s i x.pk.con 2 ++ cla s i x.pk.brk 3:=by rw [WSUCC.out]; simp only [Bool.false_eq_true,if_false,List.nil_append,List.append_assoc]
             rw [e]; exact E
            clear E I
            go_wp2_with fail
            go_roundg g'
            case measure=>omega
            case rel=>exact ⟨i + 1,m,ra,rc,XS,rfl,by go_num,O,HE2,B,by omega,by omega⟩
    ·have hge:¬ (i:Int) < (n:Int):=by omega
     obtain rfl:i = n:=by omega
     have OF:Hid (wr.ownsRow w.heap.size 43 5 (.slice ra m rc) (wrN s i).length (vcells (wrN s i))):=by
      have h:=Rl.own_mono O.out HW0.out.size
      rw [E.out.2] at h
      rw [← E.out.1]
      exact h
     have BF:=Lib.hid (HW0.out.trans (B.out.mono HW0.out.size))
     clear E
     go_wp2_with fail
     go_ret
     exact ⟨_,rfl,OF.out,BF.out⟩
end Sa
end Go.Proofs.YtgpcilepkmckeaaDoor

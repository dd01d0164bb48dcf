/-
write, of clauses and of what is provided; Text, Atoms, Provides. write, of what is provided; Text, Atoms, Provides. The relation that every program must know.
-/
import Derived.Test.YthmpepnikmdjpaaGreatDoorCRelWriteA
import Derived.Test.YthmpepnikmdjpaaGreatDoorCRelYList
namespace Go.Proofs.YthmpepnikmdjpaaGreatDoor
open Go.RowKit
set_option linter.unusedSimpArgs false
set_option linter.unusedVariables false
namespace Rl
open Ver (Bs li li_len li_drop S S_self S_of S_size S_li below_drewN empty_is empty_no MaxLen Signs)
theorem LimA.of {l:List (List At)} (h:LimC l) {k:Nat} (hk:k < l.length):LimA (l.getD k []):=h _ (mem_getD hk)
theorem writeClause_any (v:Value) (c:List At) (w:World) (h:Ats w v c) (hL:LimA c) (hv:Vars w) :
  Calls Tryz.prog 254 #[v] w fun e w'=>e = .returned (.string (S (wCl c))) ∧ Below w.heap.size w w':=by
 have ca:=writeA_any v c 6 [32,124,32] w h hL hv (by omega) (by decide)
 rw [show S [32,124,32] = ⟨#[32,124,32]⟩ from rfl,show wrt 6 [32,124,32] wAt c = wCl c from rfl] at ca
 obtain ⟨sa,cap,rfl⟩:=h.shape
 generalize c.length = n at *
 clear h hL hv
 generalize S (wCl c) = y at *
 go_enter Tryz.func254,Tryz.ntmps254
 go_wp2_with fail
 refine ca.mono ?_
 rintro e w1 ⟨rfl,k1⟩
 go_wp2_with fail
 go_ret
 exact ⟨rfl,k1⟩
set_option maxRecDepth 100000 in
set_option maxHeartbeats 4000000 in
theorem writeC_any (v:Value) (l:List (List At)) (most:Nat) (sep:Bs) (w:World) (h:Clss w v l) (hL:LimC l) (hv:Vars w) (hm:most ≤ 12) (hsep:sep.length ≤ 3) :
  Calls Tryz.prog 253 #[v,.int .i64 most,.string (S sep),.func (.func 254) #[] #[]] w fun e w'=>e = .returned (.string (S (wrt most sep wCl l))) ∧ Below w.heap.size w w':=by
 obtain ⟨sa,cap,rfl⟩:=h.shape
 unfold wrt
 by_cases hmost:most < l.length
 ·rw [if_pos hmost]
  have hm':(most:Int) < (l.length:Int):=by omega
  have hz:S [] = ⟨#[]⟩:=rfl
  rw [hz]
  generalize l.length = n at *
  clear h hL hv
  go_enter Tryz.func253,Tryz.ntmps253
  go_wp2_with fail
  go_ret
  exact ⟨rfl,Below.refl _ _⟩
 ·rw [if_neg hmost]
  have hm':¬ (most:Int) < (l.length:Int):=by omega
  obtain ⟨G,hG⟩:∃ G,(if (l.any fun x=>(wCl x).isEmpty) = true then [] else Lib.join (l.map wCl) sep) = G:=⟨_,rfl⟩
  have HG:=Lib.hid hG
  rw [hG]
  have H:=Lib.hid h
  have HL:=Lib.hid hL
  have HV:=Lib.hid hv
  clear hG h hL hv
  obtain ⟨n,hn⟩:∃ n,l.length = n:=⟨_,rfl⟩
  have HN:=Lib.hid hn
  rw [hn] at hmost hm' ⊢
  clear hn
  go_enter Tryz.func253,Tryz.ntmps253
  go_wp2_with fail
  go_loopg [9,19] n (fun gf s9 s19 wx=>∃ (k:Nat) (pa:Option Addr) (cp:Nat),s9 = .slice pa k cp ∧ s19 = .int .i64 k ∧ wx.ownsRow w.heap.size 9 1 (.slice pa k cp) k (tcells ((l.take k).map wCl)) ∧ Below w.heap.size w wx ∧ Hid (∀ j,j < k → wCl (l.getD j []) ≠ []) ∧ k ≤ n ∧ n ≤ k + gf)
  case atStart=>exact ⟨0,none,0,rfl,rfl,World.ownsRow_nil w _ _ 1,Below.refl _ _,fun j hj=>absurd hj (by omega),by omega,by omega⟩
  case round =>
   obtain ⟨k,pa,cp,rfl,rfl,hown,hbw,HE,hkn,hfu⟩:=hrel
   by_cases hlt:k < n
   ·obtain ⟨g',rfl⟩:∃ g',gk = g' + 1:=⟨gk - 1,by omega⟩
    have hlt':(k:Int) < (n:Int):=by omega
    have hk0:(0:Int) ≤ k:=by omega
    have hkl:k < l.length:=by rw [HN.out]; exact hlt
    obtain ⟨_,a',cap',e1,_,hcells⟩:=H.out.below hbw
    simp only [Value.slice.injEq,true_and] at e1
    obtain ⟨rfl,rfl⟩:=e1
    obtain ⟨kb,off,rfl,hcl2⟩:=hcells (by omega)
    obtain ⟨u,x0,xa⟩:=hcl2 k hkl
    rw [Nat.one_mul] at x0
    have hlim:=LimA.of HL.out hkl
    have htk:=take_one (z:=([]:List At)) hkl
    have hte:=fun h=>any_empty (f:=wCl) (z:=([]:List At)) hkl h
    have HTK:=Lib.hid htk
    have HTE:=Lib.hid hte
    have HOWN:=Lib.hid hown
    have HBW:=Lib.hid hbw
    have ca:=writeClause_any u (l.getD k []) wr xa hlim (HV.out.on hbw)
    obtain ⟨ua,uc,rfl⟩:=xa.shape
    generalize hx:l.getD k [] = x at *
    have HX:=Lib.hid hx
    clear hcl2 hcells hown hbw hlim htk hte hx xa
    generalize x.length = m at *
    cases hw:wCl x with
    | nil =>
     rw [hw] at ca
     have hF:=HTE.out hw
     have hG:G = []:=by rw [← HG.out,if_pos hF]
     subst hG
     have he:(S []).toList.isEmpty = true:=isEmpty_S []
     have hz:S [] = ⟨#[]⟩:=rfl
     rw [hz] at ca he
     clear HG hF HTE HTK hw HL HX HE
     go_wp2_with fail
     refine ca.mono ?_
     rintro e w1 ⟨rfl,k1⟩
     have hb1:=HBW.out.trans (k1.mono HBW.out.size)
     go_wp2_with fail
     go_ret
     exact ⟨rfl,hb1⟩
    | cons c0 t0 =>
     rw [hw] at ca
     have he:(S (c0 :: t0)).toList.isEmpty = false:=isEmpty_S (c0 :: t0)
     have hE2:∀ j,j < k + 1 → wCl (l.getD j []) ≠ []:=fun j hj=>by
      by_cases e:j = k
      ·rw [e,HX.out,hw]; simp
      ·exact HE.out j (by omega)
     have hT2:tcells ((l.take (k + 1)).map wCl) = tcells ((l.take k).map wCl) ++ [.string (S (c0 :: t0))]:=by
      rw [HTK.out,List.map_append,List.map_singleton,hw,tcells_app]
     have HE2:=Lib.hid hE2
     have HT2:=Lib.hid hT2
     have hk70:k + 1 ≤ 70000:=by omega
     clear HTE HTK hw HL HX HE hE2 hT2
     generalize S (c0 :: t0) = y at *
     go_wp2_with fail
     refine ca.mono ?_
     rintro e w1 ⟨rfl,k1⟩
     have hb3:=(Below.refl w1.heap.size w1).alloc (Nat.le_refl _) (.cells #[.string y] 9)
     have hc3:=(Blk.Is.new w1 9 #[.string y]).at (i:=0) rfl
     obtain ⟨W3,hW3⟩:∃ W3,w1.alloc (.cells #[.string y] 9) = W3:=⟨_,rfl⟩
     rw [hW3] at hb3 hc3
     have HW3:=Lib.hid hW3
     have HC3:=Lib.hid hc3
     have HO3:=Lib.hid (Own.owns_below (Own.owns_below HOWN.out k1) hb3)
     have HB3:=Lib.hid ((HBW.out.trans (k1.mono HBW.out.size)).trans (hb3.mono (HBW.out.trans (k1.mono HBW.out.size)).size))
     have HSZ:=Lib.hid HB3.out.size
     clear hW3 hc3 hb3 k1 HBW HOWN ca
     go_wp2_with (at_builtin; rw [HW3.out]; refine append_el Tryz.underlying41 infoText rfl (by decide) rfl (.tmp 28) (.tmp 30) rfl w.heap.size (.slice pa k cp) k (tcells ((l.take k).map wCl)) rfl HO3.out w1.heap.size 1 rfl [.string y] rfl (one_cell HC3.out) (fun u hu=>by simp only [List.mem_singleton] at hu; rw [hu]; rfl) hk70 HSZ.out ?_; intro v' w4 h4 h5; have hb4:=Own.below_grown HB3.out HO3.out h5 HSZ.out; obtain ⟨a4,c4,rfl,_⟩:=own_shape h4; rw [← HT2.out] at h4; have H4:=Lib.hid h4; have HB4:=Lib.hid hb4; clear h4 h5 hb4 HW3 HC3 HO3 HB3)
     go_roundg g'
     case measure=>omega
     case rel=>exact ⟨k + 1,a4,c4,rfl,by go_num,H4.out,HB4.out,HE2.out,by omega,by omega⟩
   ·have hge:¬ (k:Int) < (n:Int):=by omega
    obtain rfl:k = n:=by omega
    have hfull:(l.any fun x=>(wCl x).isEmpty) = false:=any_full (z:=([]:List At)) fun j hj=>HE.out j (by rw [← HN.out]; exact hj)
    have hG:G = Lib.join (l.map wCl) sep:=by rw [← HG.out,if_neg (by rw [hfull]; simp)]
    have hps:(l.take k).map wCl = l.map wCl:=by rw [List.take_of_length_le (by rw [HN.out]; exact Nat.le_refl _)]
    rw [hps] at hown
    have hlen:(l.map wCl).length = k:=by rw [List.length_map]; exact HN.out
    have hjl:(Lib.join (l.map wCl) sep).length ≤ 140737488355328:=by
     have h1:=join_len sep 600 (l.map wCl) fun x hx=>by
      obtain ⟨a,_,rfl⟩:=List.mem_map.1 hx
      exact wCl_len a
     have h2:(l.map wCl).length * (600 + sep.length) ≤ 12 * 603:=Nat.mul_le_mul (by rw [hlen]; omega) (by omega)
     omega
    have cj:=join_any sep w.heap.size (.slice pa k cp) (l.map wCl) wr (by rw [hlen]; exact hown) (by rw [hlen]; omega) hjl
    rw [← hG] at cj
    clear HG hfull hps hlen hjl hown HE HL hG
    have HBW:=Lib.hid hbw
    clear hbw
    go_wp2_with fail
    refine cj.mono ?_
    rintro e w1 ⟨rfl,k1⟩
    have hb1:=HBW.out.trans (k1.mono HBW.out.size)
    go_wp2_with fail
    go_ret
    exact ⟨rfl,hb1⟩
end Rl
end Go.Proofs.YthmpepnikmdjpaaGreatDoor
namespace Go.Proofs.YthmpepnikmdjpaaGreatDoor
open Go.RowKit
set_option linter.unusedSimpArgs false
set_option linter.unusedVariables false
namespace Rl
open Ver (Bs li li_len li_drop S S_self S_of S_size S_li below_drewN empty_is empty_no MaxLen Signs)
def wPv (p:Pv):Bs:=wAt (pvA p)
theorem wPv_len (p:Pv):(wPv p).length ≤ 78:=wAt_len _
set_option maxRecDepth 100000 in
set_option maxHeartbeats 1000000 in
theorem writeProvide_any (p:Pv) (w:World) (h1:p.1.length ≤ 4611686018427387904) (h2:p.2.length ≤ 4611686018427387904) (hv:Vars w) :
  Calls Tryz.prog 258 #[pV p] w fun e w'=>e = .returned (.string (S (wPv p))) ∧ Below w.heap.size w w':=by
 have ca:=fun w hv=>atom_any (pvA p) w h1 h2 hv
 unfold wPv
 obtain ⟨n,v⟩:=p
 unfold pV
 unfold aV at ca
 unfold pvA at ca ⊢
 simp only at h1 h2 ca ⊢
 have hve:=isEmpty_S v
 have HV:=Lib.hid hv
 clear hv h1 h2
 cases v with
 | nil =>
  have hz:S [] = ⟨#[]⟩:=rfl
  simp only [if_true] at ca ⊢
  rw [hz] at ca hve ⊢
  simp only [List.isEmpty_nil] at hve
  generalize S (wAt _) = y at *
  generalize S n = x at *
  have hb:Below w.heap.size w ((w.alloc (.cells #[.string x,.string ⟨#[]⟩] 82)).alloc (.cells #[.string x,.int .i64 0,.string ⟨#[]⟩] 78)):=((Below.refl _ _).alloc (Nat.le_refl _) _).alloc (by simp) _
  go_enter Tryz.func258,Tryz.ntmps258
  go_wp2_with fail
  generalize ((w.alloc (.cells #[.string x,.string ⟨#[]⟩] 82)).alloc (.cells #[.string x,.int .i64 0,.string ⟨#[]⟩] 78)) = W at *
  refine (ca _ (HV.out.on hb)).mono ?_
  rintro e w1 ⟨rfl,k1⟩
  have hb1:=hb.trans (k1.mono hb.size)
  go_wp2_with fail
  go_ret
  exact ⟨rfl,hb1⟩
 | cons c t =>
  rw [if_neg (by simp)] at ca ⊢
  rw [List.isEmpty_cons] at hve
  generalize S (wAt _) = y at *
  generalize S n = x at *
  generalize S (c :: t) = z at *
  have hb:Below w.heap.size w ((w.alloc (.cells #[.string x,.string z] 82)).alloc (.cells #[.string x,.int .i64 3,.string z] 78)):=((Below.refl _ _).alloc (Nat.le_refl _) _).alloc (by simp) _
  go_enter Tryz.func258,Tryz.ntmps258
  go_wp2_with fail
  generalize ((w.alloc (.cells #[.string x,.string z] 82)).alloc (.cells #[.string x,.int .i64 3,.string z] 78)) = W at *
  refine (ca _ (HV.out.on hb)).mono ?_
  rintro e w1 ⟨rfl,k1⟩
  have hb1:=hb.trans (k1.mono hb.size)
  go_wp2_with fail
  go_ret
  exact ⟨rfl,hb1⟩
set_option maxRecDepth 100000 in
set_option maxHeartbeats 4000000 in
theorem writeP_any (v:Value) (l:List Pv) (most:Nat) (sep:Bs) (w:World) (h:Pvs w v l) (hL:LimP l) (hv:Vars w) (hm:most ≤ 12) (hsep:sep.length ≤ 3) :
  Calls Tryz.prog 257 #[v,.int .i64 most,.string (S sep),.func (.func 258) #[] #[]] w fun e w'=>e = .returned (.string (S (wrt most sep wPv l))) ∧ Below w.heap.size w w':=by
 obtain ⟨sa,cap,rfl⟩:=h.shape
 unfold wrt
 by_cases hmost:most < l.length
 ·rw [if_pos hmost]
  have hm':(most:Int) < (l.length:Int):=by omega
  have hz:S [] = ⟨#[]⟩:=rfl
  rw [hz]
  generalize l.length = n at *
  clear h hL hv
  go_enter Tryz.func257,Tryz.ntmps257
  go_wp2_with fail
  go_ret
  exact ⟨rfl,Below.refl _ _⟩
 ·rw [if_neg hmost]
  have hm':¬ (most:Int) < (l.length:Int):=by omega
  obtain ⟨G,hG⟩:∃ G,(if (l.any fun x=>(wPv x).isEmpty) = true then [] else Lib.join (l.map wPv) sep) = G:=⟨_,rfl⟩
  have HG:=Lib.hid hG
  rw [hG]
  have H:=Lib.hid h
  have HL:=Lib.hid hL
  have HV:=Lib.hid hv
  clear hG h hL hv
  obtain ⟨n,hn⟩:∃ n,l.length = n:=⟨_,rfl⟩
  have HN:=Lib.hid hn
  rw [hn] at hmost hm' ⊢
  clear hn
  go_enter Tryz.func257,Tryz.ntmps257
  go_wp2_with fail
  go_loopg [9,19] n (fun gf s9 s19 wx=>∃ (k:Nat) (pa:Option Addr) (cp:Nat),s9 = .slice pa k cp ∧ s19 = .int .i64 k ∧ wx.ownsRow w.heap.size 9 1 (.slice pa k cp) k (tcells ((l.take k).map wPv)) ∧ Below w.heap.size w wx ∧ Hid (∀ j,j < k → wPv (l.getD j nP) ≠ []) ∧ k ≤ n ∧ n ≤ k + gf)
  case atStart=>exact ⟨0,none,0,rfl,rfl,World.ownsRow_nil w _ _ 1,Below.refl _ _,fun j hj=>absurd hj (by omega),by omega,by omega⟩
  case round =>
   obtain ⟨k,pa,cp,rfl,rfl,hown,hbw,HE,hkn,hfu⟩:=hrel
   by_cases hlt:k < n
   ·obtain ⟨g',rfl⟩:∃ g',gk = g' + 1:=⟨gk - 1,by omega⟩
    have hlt':(k:Int) < (n:Int):=by omega
    have hk0:(0:Int) ≤ k:=by omega
    have hkl:k < l.length:=by rw [HN.out]; exact hlt
    obtain ⟨_,a',cap',e1,_,hcells⟩:=H.out.below hbw
    simp only [Value.slice.injEq,true_and] at e1
    obtain ⟨rfl,rfl⟩:=e1
    obtain ⟨kb,off,rfl,hcl2⟩:=hcells (by omega)
    obtain ⟨x0,x1⟩:=hcl2 k hkl
    rw [Nat.mul_comm 2 k] at x0 x1
    have hmem:=mem_getD (z:=nP) hkl
    have hlim:=HL.out _ hmem
    have htk:=take_one (z:=nP) hkl
    have hte:=fun h=>any_empty (f:=wPv) (z:=nP) hkl h
    have HTK:=Lib.hid htk
    have HTE:=Lib.hid hte
    have HOWN:=Lib.hid hown
    have HBW:=Lib.hid hbw
    have ca:=fun w hv=>writeProvide_any (l.getD k nP) w (by omega) (by omega) hv
    unfold pV at ca
    generalize hx:l.getD k nP = x at *
    have HX:=Lib.hid hx
    clear hcl2 hcells hown hbw hmem hlim htk hte hx
    cases hw:wPv x with
    | nil =>
     rw [hw] at ca
     have hF:=HTE.out hw
     have hG:G = []:=by rw [← HG.out,if_pos hF]
     subst hG
     have he:(S []).toList.isEmpty = true:=isEmpty_S []
     have hz:S [] = ⟨#[]⟩:=rfl
     rw [hz] at ca he
     clear HG hF HTE HTK hw HL HX HE
     have hb2:=(Below.refl wr.heap.size wr).alloc (Nat.le_refl _) (.cells #[.string (S x.1),.string (S x.2)] 82)
     have HB2:=Lib.hid (HBW.out.trans (hb2.mono HBW.out.size))
     have HO2:=Lib.hid (Own.owns_below HOWN.out hb2)
     clear hb2 HBW HOWN
     go_wp2_with fail
     generalize wr.alloc (.cells #[.string (S x.1),.string (S x.2)] 82) = W at *
     refine (ca _ (HV.out.on HB2.out)).mono ?_
     rintro e w1 ⟨rfl,k1⟩
     have hb1:=HB2.out.trans (k1.mono HB2.out.size)
     go_wp2_with fail
     go_ret
     exact ⟨rfl,hb1⟩
    | cons c0 t0 =>
     rw [hw] at ca
     have he:(S (c0 :: t0)).toList.isEmpty = false:=isEmpty_S (c0 :: t0)
     have hE2:∀ j,j < k + 1 → wPv (l.getD j nP) ≠ []:=fun j hj=>by
      by_cases e:j = k
      ·rw [e,HX.out,hw]; simp
      ·exact HE.out j (by omega)
     have hT2:tcells ((l.take (k + 1)).map wPv) = tcells ((l.take k).map wPv) ++ [.string (S (c0 :: t0))]:=by
      rw [HTK.out,List.map_append,List.map_singleton,hw,tcells_app]
     have HE2:=Lib.hid hE2
     have HT2:=Lib.hid hT2
     have hk70:k + 1 ≤ 70000:=by omega
     clear HTE HTK hw HL HX HE hE2 hT2
     generalize S (c0 :: t0) = y at *
     have hb2:=(Below.refl wr.heap.size wr).alloc (Nat.le_refl _) (.cells #[.string (S x.1),.string (S x.2)] 82)
     have HB2:=Lib.hid (HBW.out.trans (hb2.mono HBW.out.size))
     have HO2:=Lib.hid (Own.owns_below HOWN.out hb2)
     clear hb2 HBW HOWN
     go_wp2_with fail
     generalize wr.alloc (.cells #[.string (S x.1),.string (S x.2)] 82) = W at *
     refine (ca _ (HV.out.on HB2.out)).mono ?_
     rintro e w1 ⟨rfl,k1⟩
     have hb3:=(Below.refl w1.heap.size w1).alloc (Nat.le_refl _) (.cells #[.string y] 9)
     have hc3:=(Blk.Is.new w1 9 #[.string y]).at (i:=0) rfl
     obtain ⟨W3,hW3⟩:∃ W3,w1.alloc (.cells #[.string y] 9) = W3:=⟨_,rfl⟩
     rw [hW3] at hb3 hc3
     have HW3:=Lib.hid hW3
     have HC3:=Lib.hid hc3
     have HO3:=Lib.hid (Own.owns_below (Own.owns_below HO2.out k1) hb3)
     have HB3:=Lib.hid ((HB2.out.trans (k1.mono HB2.out.size)).trans (hb3.mono (HB2.out.trans (k1.mono HB2.out.size)).size))
     have HSZ:=Lib.hid HB3.out.size
     clear hW3 hc3 hb3 k1 HB2 HO2 ca
     go_wp2_with (at_builtin; rw [HW3.out]; refine append_el Tryz.underlying41 infoText rfl (by decide) rfl (.tmp 28) (.tmp 30) rfl w.heap.size (.slice pa k cp) k (tcells ((l.take k).map wPv)) rfl HO3.out w1.heap.size 1 rfl [.string y] rfl (one_cell HC3.out) (fun u hu=>by simp only [List.mem_singleton] at hu; rw [hu]; rfl) hk70 HSZ.out ?_; intro v' w4 h4 h5; have hb4:=Own.below_grown HB3.out HO3.out h5 HSZ.out; obtain ⟨a4,c4,rfl,_⟩:=own_shape h4; rw [← HT2.out] at h4; have H4:=Lib.hid h4; have HB4:=Lib.hid hb4; clear h4 h5 hb4 HW3 HC3 HO3 HB3)
     go_roundg g'
     case measure=>omega
     case rel=>exact ⟨k + 1,a4,c4,rfl,by go_num,H4.out,HB4.out,HE2.out,by omega,by omega⟩
   ·have hge:¬ (k:Int) < (n:Int):=by omega
    obtain rfl:k = n:=by omega
    have hfull:(l.any fun x=>(wPv x).isEmpty) = false:=any_full (z:=nP) fun j hj=>HE.out j (by rw [← HN.out]; exact hj)
    have hG:G = Lib.join (l.map wPv) sep:=by rw [← HG.out,if_neg (by rw [hfull]; simp)]
    have hps:(l.take k).map wPv = l.map wPv:=by rw [List.take_of_length_le (by rw [HN.out]; exact Nat.le_refl _)]
    rw [hps] at hown
    have hlen:(l.map wPv).length = k:=by rw [List.length_map]; exact HN.out
    have hjl:(Lib.join (l.map wPv) sep).length ≤ 140737488355328:=by
     have h1:=join_len sep 78 (l.map wPv) fun x hx=>by
      obtain ⟨a,_,rfl⟩:=List.mem_map.1 hx
      exact wPv_len a
     have h2:(l.map wPv).length * (78 + sep.length) ≤ 12 * 81:=Nat.mul_le_mul (by rw [hlen]; omega) (by omega)
     omega
    have cj:=join_any sep w.heap.size (.slice pa k cp) (l.map wPv) wr (by rw [hlen]; exact hown) (by rw [hlen]; omega) hjl
    rw [← hG] at cj
    clear HG hfull hps hlen hjl hown HE HL hG
    have HBW:=Lib.hid hbw
    clear hbw
    go_wp2_with fail
    refine cj.mono ?_
    rintro e w1 ⟨rfl,k1⟩
    have hb1:=HBW.out.trans (k1.mono HBW.out.size)
    go_wp2_with fail
    go_ret
    exact ⟨rfl,hb1⟩
theorem Text_any (v:Value) (l:List (List At)) (w:World) (h:Clss w v l) (hL:LimC l) (hv:Vars w) :
  Calls Tryz.prog 217 #[v] w fun e w'=>e = .returned (.string (S (text l))) ∧ Below w.heap.size w w':=by
 have ca:=writeC_any v l 12 [44,32] w h hL hv (by omega) (by decide)
 rw [show S [44,32] = ⟨#[44,32]⟩ from rfl,show wrt 12 [44,32] wCl l = text l from rfl] at ca
 obtain ⟨sa,cap,rfl⟩:=h.shape
 generalize l.length = n at *
 clear h hL hv
 generalize S (text l) = y at *
 go_enter Tryz.func217,Tryz.ntmps217
 go_wp2_with fail
 refine ca.mono ?_
 rintro e w1 ⟨rfl,k1⟩
 go_wp2_with fail
 go_ret
 exact ⟨rfl,k1⟩
theorem Atoms_any (v:Value) (l:List At) (w:World) (h:Ats w v l) (hL:LimA l) (hv:Vars w) :
  Calls Tryz.prog 218 #[v] w fun e w'=>e = .returned (.string (S (atoms l))) ∧ Below w.heap.size w w':=by
 have ca:=writeA_any v l 12 [44,32] w h hL hv (by omega) (by decide)
 rw [show S [44,32] = ⟨#[44,32]⟩ from rfl,show wrt 12 [44,32] wAt l = atoms l from rfl] at ca
 obtain ⟨sa,cap,rfl⟩:=h.shape
 generalize l.length = n at *
 clear h hL hv
 generalize S (atoms l) = y at *
 go_enter Tryz.func218,Tryz.ntmps218
 go_wp2_with fail
 refine ca.mono ?_
 rintro e w1 ⟨rfl,k1⟩
 go_wp2_with fail
 go_ret
 exact ⟨rfl,k1⟩
theorem Provides_any (v:Value) (l:List Pv) (w:World) (h:Pvs w v l) (hL:LimP l) (hv:Vars w) :
  Calls Tryz.prog 219 #[v] w fun e w'=>e = .returned (.string (S (provs l))) ∧ Below w.heap.size w w':=by
 have ca:=writeP_any v l 12 [44,32] w h hL hv (by omega) (by decide)
 rw [show S [44,32] = ⟨#[44,32]⟩ from rfl,show wrt 12 [44,32] wPv l = provs l from rfl] at ca
 obtain ⟨sa,cap,rfl⟩:=h.shape
 generalize l.length = n at *
 clear h hL hv
 generalize S (provs l) = y at *
 go_enter Tryz.func219,Tryz.ntmps219
 go_wp2_with fail
 refine ca.mono ?_
 rintro e w1 ⟨rfl,k1⟩
 go_wp2_with fail
 go_ret
 exact ⟨rfl,k1⟩
end Rl
end Go.Proofs.YthmpepnikmdjpaaGreatDoor
namespace Go.Proofs.YthmpepnikmdjpaaGreatDoor
open Go.RowKit
set_option linter.unusedSimpArgs false
set_option linter.unusedVariables false
namespace Rl
open Ver (Bs li li_len li_drop S S_self S_of S_size S_li below_drewN empty_is empty_no MaxLen Signs)
def awB:ByteArray:=⟨#[97,97,32,40,62,61,32,49,41,32,124,32,98,98,44,32,99,99,40,60,60,50,41]⟩
def awL:List (List At):=[[([97,97],4,[49]),([98,98],0,[])],[([99,99],1,[50])]]
theorem aw_parse:whole rdC (li awB) = .ok awL:=by
 have h:(match whole rdC (li awB) with | .ok l=>decide (l = awL) | .error _=>false) = true:=by decide +kernel
 cases hq:whole rdC (li awB) with
 | error e=>rw [hq] at h; cases h
 | ok l=>rw [hq] at h; rw [of_decide_eq_true h]
theorem aw_text:text awL = [97,97,32,40,62,61,32,49,41,32,124,32,98,98,44,32,99,99,32,40,60,60,32,50,41]:=by decide +kernel
theorem aw_lim:LimC awL:=by
 intro c hc a ha
 have:∀ c ∈ awL,∀ a ∈ c,a.1.length ≤ 140737488351232 ∧ a.2.2.length ≤ 140737488351232:=by decide
 exact this c hc a ha
end Rl
end Go.Proofs.YthmpepnikmdjpaaGreatDoor

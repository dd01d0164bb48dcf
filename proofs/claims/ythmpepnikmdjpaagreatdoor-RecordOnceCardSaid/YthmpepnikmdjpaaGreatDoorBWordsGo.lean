/-
write, of clauses and of what is provided; Text, Atoms, Provides. write, of what is provided; Text, Atoms, Provides. The relation that every program must know. Write: a value as a text; the reference's Write. Words and trimmed texts, by lists of bytes. The library's FieldsFunc and TrimFunc at white space are the words, and the trimmed text, by bytes.
-/
import Derived.Test.YthmpepnikmdjpaaGreatDoorBRelWriteA
import Derived.Test.YthmpepnikmdjpaaGreatDoorBTextAwake
import Derived.Test.YthmpepnikmdjpaaGreatDoorBValSort
import Derived.Test.YthmpepnikmdjpaaGreatDoorShelf
import Derived.Lib.AppendIntMem
import Derived.Deep.QuietTactic
import Derived.Test.YthmpepnikmdjpaaGreatDoorBTextSmallK
import Derived.Lib.TrimUEq
import Derived.Lib.FieldsP
namespace Go.Proofs.YthmpepnikmdjpaaGreatDoor
open Go.RowKit
set_option linter.unusedSimpArgs false
set_option linter.unusedVariables false
namespace Rl
open Ver (Bs li li_len li_drop S S_self S_of S_size S_li below_drewN empty_is empty_no MaxLen Signs)
theorem LimA.of {l:List (List At)} (h:LimC l) {k:Nat} (hk:k < l.length):LimA (l.getD k []):=h _ (mem_getD hk)
theorem writeClause_any (v:Value) (c:List At) (w:World) (h:Ats w v c) (hL:LimA c) (hv:Vars w) :
  Calls Tryz.prog 254 #[v] w fun e w'=>e = .returned (.string (S (wCl c))) ∧ Below w.heap.size w w':=by
 have ca:=writeA_any v c 6 [32,124,32] w h hL hv (by omega) (by decide)
 rw [show S [32,124,32] = ⟨#[32,124,32]⟩ from rfl,show wrt 6 [32,124,32] wAt c = wCl c from rfl] at ca
 obtain ⟨sa,cap,rfl⟩:=h.shape
 generalize c.length = n at *
 clear h hL hv
 generalize S (wCl c) = y at *
 go_enter Tryz.func254,Tryz.ntmps254
 go_wp2_with fail
 refine ca.mono ?_
 rintro e w1 ⟨rfl,k1⟩
 go_wp2_with fail
 go_ret
 exact ⟨rfl,k1⟩
set_option maxRecDepth 100000 in
set_option maxHeartbeats 4000000 in
theorem writeC_any (v:Value) (l:List (List At)) (most:Nat) (sep:Bs) (w:World) (h:Clss w v l) (hL:LimC l) (hv:Vars w) (hm:most ≤ 12) (hsep:sep.length ≤ 3) :
  Calls Tryz.prog 253 #[v,.int .i64 most,.string (S sep),.func (.func 254) #[] #[]] w fun e w'=>e = .returned (.string (S (wrt most sep wCl l))) ∧ Below w.heap.size w w':=by
 obtain ⟨sa,cap,rfl⟩:=h.shape
 unfold wrt
 by_cases hmost:most < l.length
 ·rw [if_pos hmost]
  have hm':(most:Int) < (l.length:Int):=by omega
  have hz:S [] = ⟨#[]⟩:=rfl
  rw [hz]
  generalize l.length = n at *
  clear h hL hv
  go_enter Tryz.func253,Tryz.ntmps253
  go_wp2_with fail
  go_ret
  exact ⟨rfl,Below.refl _ _⟩
 ·rw [if_neg hmost]
  have hm':¬ (most:Int) < (l.length:Int):=by omega
  obtain ⟨G,hG⟩:∃ G,(if (l.any fun x=>(wCl x).isEmpty) = true then [] else Lib.join (l.map wCl) sep) = G:=⟨_,rfl⟩
  have HG:=Lib.hid hG
  rw [hG]
  have H:=Lib.hid h
  have HL:=Lib.hid hL
  have HV:=Lib.hid hv
  clear hG h hL hv
  obtain ⟨n,hn⟩:∃ n,l.length = n:=⟨_,rfl⟩
  have HN:=Lib.hid hn
  rw [hn] at hmost hm' ⊢
  clear hn
  go_enter Tryz.func253,Tryz.ntmps253
  go_wp2_with fail
  go_loopg [9,19] n (fun gf s9 s19 wx=>∃ (k:Nat) (pa:Option Addr) (cp:Nat),s9 = .slice pa k cp ∧ s19 = .int .i64 k ∧ wx.ownsRow w.heap.size 9 1 (.slice pa k cp) k (tcells ((l.take k).map wCl)) ∧ Below w.heap.size w wx ∧ Hid (∀ j,j < k → wCl (l.getD j []) ≠ []) ∧ k ≤ n ∧ n ≤ k + gf)
  case atStart=>exact ⟨0,none,0,rfl,rfl,World.ownsRow_nil w _ _ 1,Below.refl _ _,fun j hj=>absurd hj (by omega),by omega,by omega⟩
  case round =>
   obtain ⟨k,pa,cp,rfl,rfl,hown,hbw,HE,hkn,hfu⟩:=hrel
   by_cases hlt:k < n
   ·obtain ⟨g',rfl⟩:∃ g',gk = g' + 1:=⟨gk - 1,by omega⟩
    have hlt':(k:Int) < (n:Int):=by omega
    have hk0:(0:Int) ≤ k:=by omega
    have hkl:k < l.length:=by rw [HN.out]; exact hlt
    obtain ⟨_,a',cap',e1,_,hcells⟩:=H.out.below hbw
    simp only [Value.slice.injEq,true_and] at e1
    obtain ⟨rfl,rfl⟩:=e1
    obtain ⟨kb,off,rfl,hcl2⟩:=hcells (by omega)
    obtain ⟨u,x0,xa⟩:=hcl2 k hkl
    rw [Nat.one_mul] at x0
    have hlim:=LimA.of HL.out hkl
    have htk:=take_one (z:=([]:List At)) hkl
    have hte:=fun h=>any_empty (f:=wCl) (z:=([]:List At)) hkl h
    have HTK:=Lib.hid htk
    have HTE:=Lib.hid hte
    have HOWN:=Lib.hid hown
    have HBW:=Lib.hid hbw
    have ca:=writeClause_any u (l.getD k []) wr xa hlim (HV.out.on hbw)
    obtain ⟨ua,uc,rfl⟩:=xa.shape
    generalize hx:l.getD k [] = x at *
    have HX:=Lib.hid hx
    clear hcl2 hcells hown hbw hlim htk hte hx xa
    generalize x.length = m at *
    cases hw:wCl x with
    | nil =>
     rw [hw] at ca
     have hF:=HTE.out hw
     have hG:G = []:=by rw [← HG.out,if_pos hF]
     subst hG
     have he:(S []).toList.isEmpty = true:=isEmpty_S []
     have hz:S [] = ⟨#[]⟩:=rfl
     rw [hz] at ca he
     clear HG hF HTE HTK hw HL HX HE
     go_wp2_with fail
     refine ca.mono ?_
     rintro e w1 ⟨rfl,k1⟩
     have hb1:=HBW.out.trans (k1.mono HBW.out.size)
     go_wp2_with fail
     go_ret
     exact ⟨rfl,hb1⟩
    | cons c0 t0 =>
     rw [hw] at ca
     have he:(S (c0 :: t0)).toList.isEmpty = false:=isEmpty_S (c0 :: t0)
     have hE2:∀ j,j < k + 1 → wCl (l.getD j []) ≠ []:=fun j hj=>by
      by_cases e:j = k
      ·rw [e,HX.out,hw]; simp
      ·exact HE.out j (by omega)
     have hT2:tcells ((l.take (k + 1)).map wCl) = tcells ((l.take k).map wCl) ++ [.string (S (c0 :: t0))]:=by
      rw [HTK.out,List.map_append,List.map_singleton,hw,tcells_app]
     have HE2:=Lib.hid hE2
     have HT2:=Lib.hid hT2
     have hk70:k + 1 ≤ 70000:=by omega
     clear HTE HTK hw HL HX HE hE2 hT2
     generalize S (c0 :: t0) = y at *
     go_wp2_with fail
     refine ca.mono ?_
     rintro e w1 ⟨rfl,k1⟩
     have hb3:=(Below.refl w1.heap.size w1).alloc (Nat.le_refl _) (.cells #[.string y] 9)
     have hc3:=(Blk.Is.new w1 9 #[.string y]).at (i:=0) rfl
     obtain ⟨W3,hW3⟩:∃ W3,w1.alloc (.cells #[.string y] 9) = W3:=⟨_,rfl⟩
     rw [hW3] at hb3 hc3
     have HW3:=Lib.hid hW3
     have HC3:=Lib.hid hc3
     have HO3:=Lib.hid (Own.owns_below (Own.owns_below HOWN.out k1) hb3)
     have HB3:=Lib.hid ((HBW.out.trans (k1.mono HBW.out.size)).trans (hb3.mono (HBW.out.trans (k1.mono HBW.out.size)).size))
     have HSZ:=Lib.hid HB3.out.size
     clear hW3 hc3 hb3 k1 HBW HOWN ca
     go_wp2_with (at_builtin; rw [HW3.out]; refine append_el Tryz.underlying41 infoText rfl (by decide) rfl (.tmp 28) (.tmp 30) rfl w.heap.size (.slice pa k cp) k (tcells ((l.take k).map wCl)) rfl HO3.out w1.heap.size 1 rfl [.string y] rfl (one_cell HC3.out) (fun u hu=>by simp only [List.mem_singleton] at hu; rw [hu]; rfl) hk70 HSZ.out ?_; intro v' w4 h4 h5; have hb4:=Own.below_grown HB3.out HO3.out h5 HSZ.out; obtain ⟨a4,c4,rfl,_⟩:=own_shape h4; rw [← HT2.out] at h4; have H4:=Lib.hid h4; have HB4:=Lib.hid hb4; clear h4 h5 hb4 HW3 HC3 HO3 HB3)
     go_roundg g'
     case measure=>omega
     case rel=>exact ⟨k + 1,a4,c4,rfl,by go_num,H4.out,HB4.out,HE2.out,by omega,by omega⟩
   ·have hge:¬ (k:Int) < (n:Int):=by omega
    obtain rfl:k = n:=by omega
    have hfull:(l.any fun x=>(wCl x).isEmpty) = false:=any_full (z:=([]:List At)) fun j hj=>HE.out j (by rw [← HN.out]; exact hj)
    have hG:G = Lib.join (l.map wCl) sep:=by rw [← HG.out,if_neg (by rw [hfull]; simp)]
    have hps:(l.take k).map wCl = l.map wCl:=by rw [List.take_of_length_le (by rw [HN.out]; exact Nat.le_refl _)]
    rw [hps] at hown
    have hlen:(l.map wCl).length = k:=by rw [List.length_map]; exact HN.out
    have hjl:(Lib.join (l.map wCl) sep).length ≤ 140737488355328:=by
     have h1:=join_len sep 600 (l.map wCl) fun x hx=>by
      obtain ⟨a,_,rfl⟩:=List.mem_map.1 hx
      exact wCl_len a
     have h2:(l.map wCl).length * (600 + sep.length) ≤ 12 * 603:=Nat.mul_le_mul (by rw [hlen]; omega) (by omega)
     omega
    have cj:=join_any sep w.heap.size (.slice pa k cp) (l.map wCl) wr (by rw [hlen]; exact hown) (by rw [hlen]; omega) hjl
    rw [← hG] at cj
    clear HG hfull hps hlen hjl hown HE HL hG
    have HBW:=Lib.hid hbw
    clear hbw
    go_wp2_with fail
    refine cj.mono ?_
    rintro e w1 ⟨rfl,k1⟩
    have hb1:=HBW.out.trans (k1.mono HBW.out.size)
    go_wp2_with fail
    go_ret
    exact ⟨rfl,hb1⟩
end Rl
end Go.Proofs.YthmpepnikmdjpaaGreatDoor
namespace Go.Proofs.YthmpepnikmdjpaaGreatDoor
open Go.RowKit
set_option linter.unusedSimpArgs false
set_option linter.unusedVariables false
namespace Rl
open Ver (Bs li li_len li_drop S S_self S_of S_size S_li below_drewN empty_is empty_no MaxLen Signs)
def wPv (p:Pv):Bs:=wAt (pvA p)
theorem wPv_len (p:Pv):(wPv p).length ≤ 78:=wAt_len _
set_option maxRecDepth 100000 in
set_option maxHeartbeats 1000000 in
theorem writeProvide_any (p:Pv) (w:World) (h1:p.1.length ≤ 4611686018427387904) (h2:p.2.length ≤ 4611686018427387904) (hv:Vars w) :
  Calls Tryz.prog 258 #[pV p] w fun e w'=>e = .returned (.string (S (wPv p))) ∧ Below w.heap.size w w':=by
 have ca:=fun w hv=>atom_any (pvA p) w h1 h2 hv
 unfold wPv
 obtain ⟨n,v⟩:=p
 unfold pV
 unfold aV at ca
 unfold pvA at ca ⊢
 simp only at h1 h2 ca ⊢
 have hve:=isEmpty_S v
 have HV:=Lib.hid hv
 clear hv h1 h2
 cases v with
 | nil =>
  have hz:S [] = ⟨#[]⟩:=rfl
  simp only [if_true] at ca ⊢
  rw [hz] at ca hve ⊢
  simp only [List.isEmpty_nil] at hve
  generalize S (wAt _) = y at *
  generalize S n = x at *
  have hb:Below w.heap.size w ((w.alloc (.cells #[.string x,.string ⟨#[]⟩] 82)).alloc (.cells #[.string x,.int .i64 0,.string ⟨#[]⟩] 78)):=((Below.refl _ _).alloc (Nat.le_refl _) _).alloc (by simp) _
  go_enter Tryz.func258,Tryz.ntmps258
  go_wp2_with fail
  generalize ((w.alloc (.cells #[.string x,.string ⟨#[]⟩] 82)).alloc (.cells #[.string x,.int .i64 0,.string ⟨#[]⟩] 78)) = W at *
  refine (ca _ (HV.out.on hb)).mono ?_
  rintro e w1 ⟨rfl,k1⟩
  have hb1:=hb.trans (k1.mono hb.size)
  go_wp2_with fail
  go_ret
  exact ⟨rfl,hb1⟩
 | cons c t =>
  rw [if_neg (by simp)] at ca ⊢
  rw [List.isEmpty_cons] at hve
  generalize S (wAt _) = y at *
  generalize S n = x at *
  generalize S (c :: t) = z at *
  have hb:Below w.heap.size w ((w.alloc (.cells #[.string x,.string z] 82)).alloc (.cells #[.string x,.int .i64 3,.string z] 78)):=((Below.refl _ _).alloc (Nat.le_refl _) _).alloc (by simp) _
  go_enter Tryz.func258,Tryz.ntmps258
  go_wp2_with fail
  generalize ((w.alloc (.cells #[.string x,.string z] 82)).alloc (.cells #[.string x,.int .i64 3,.string z] 78)) = W at *
  refine (ca _ (HV.out.on hb)).mono ?_
  rintro e w1 ⟨rfl,k1⟩
  have hb1:=hb.trans (k1.mono hb.size)
  go_wp2_with fail
  go_ret
  exact ⟨rfl,hb1⟩
set_option maxRecDepth 100000 in
set_option maxHeartbeats 4000000 in
theorem writeP_any (v:Value) (l:List Pv) (most:Nat) (sep:Bs) (w:World) (h:Pvs w v l) (hL:LimP l) (hv:Vars w) (hm:most ≤ 12) (hsep:sep.length ≤ 3) :
  Calls Tryz.prog 257 #[v,.int .i64 most,.string (S sep),.func (.func 258) #[] #[]] w fun e w'=>e = .returned (.string (S (wrt most sep wPv l))) ∧ Below w.heap.size w w':=by
 obtain ⟨sa,cap,rfl⟩:=h.shape
 unfold wrt
 by_cases hmost:most < l.length
 ·rw [if_pos hmost]
  have hm':(most:Int) < (l.length:Int):=by omega
  have hz:S [] = ⟨#[]⟩:=rfl
  rw [hz]
  generalize l.length = n at *
  clear h hL hv
  go_enter Tryz.func257,Tryz.ntmps257
  go_wp2_with fail
  go_ret
  exact ⟨rfl,Below.refl _ _⟩
 ·rw [if_neg hmost]
  have hm':¬ (most:Int) < (l.length:Int):=by omega
  obtain ⟨G,hG⟩:∃ G,(if (l.any fun x=>(wPv x).isEmpty) = true then [] else Lib.join (l.map wPv) sep) = G:=⟨_,rfl⟩
  have HG:=Lib.hid hG
  rw [hG]
  have H:=Lib.hid h
  have HL:=Lib.hid hL
  have HV:=Lib.hid hv
  clear hG h hL hv
  obtain ⟨n,hn⟩:∃ n,l.length = n:=⟨_,rfl⟩
  have HN:=Lib.hid hn
  rw [hn] at hmost hm' ⊢
  clear hn
  go_enter Tryz.func257,Tryz.ntmps257
  go_wp2_with fail
  go_loopg [9,19] n (fun gf s9 s19 wx=>∃ (k:Nat) (pa:Option Addr) (cp:Nat),s9 = .slice pa k cp ∧ s19 = .int .i64 k ∧ wx.ownsRow w.heap.size 9 1 (.slice pa k cp) k (tcells ((l.take k).map wPv)) ∧ Below w.heap.size w wx ∧ Hid (∀ j,j < k → wPv (l.getD j nP) ≠ []) ∧ k ≤ n ∧ n ≤ k + gf)
  case atStart=>exact ⟨0,none,0,rfl,rfl,World.ownsRow_nil w _ _ 1,Below.refl _ _,fun j hj=>absurd hj (by omega),by omega,by omega⟩
  case round =>
   obtain ⟨k,pa,cp,rfl,rfl,hown,hbw,HE,hkn,hfu⟩:=hrel
   by_cases hlt:k < n
   ·obtain ⟨g',rfl⟩:∃ g',gk = g' + 1:=⟨gk - 1,by omega⟩
    have hlt':(k:Int) < (n:Int):=by omega
    have hk0:(0:Int) ≤ k:=by omega
    have hkl:k < l.length:=by rw [HN.out]; exact hlt
    obtain ⟨_,a',cap',e1,_,hcells⟩:=H.out.below hbw
    simp only [Value.slice.injEq,true_and] at e1
    obtain ⟨rfl,rfl⟩:=e1
    obtain ⟨kb,off,rfl,hcl2⟩:=hcells (by omega)
    obtain ⟨x0,x1⟩:=hcl2 k hkl
    rw [Nat.mul_comm 2 k] at x0 x1
    have hmem:=mem_getD (z:=nP) hkl
    have hlim:=HL.out _ hmem
    have htk:=take_one (z:=nP) hkl
    have hte:=fun h=>any_empty (f:=wPv) (z:=nP) hkl h
    have HTK:=Lib.hid htk
    have HTE:=Lib.hid hte
    have HOWN:=Lib.hid hown
    have HBW:=Lib.hid hbw
    have ca:=fun w hv=>writeProvide_any (l.getD k nP) w (by omega) (by omega) hv
    unfold pV at ca
    generalize hx:l.getD k nP = x at *
    have HX:=Lib.hid hx
    clear hcl2 hcells hown hbw hmem hlim htk hte hx
    cases hw:wPv x with
    | nil =>
     rw [hw] at ca
     have hF:=HTE.out hw
     have hG:G = []:=by rw [← HG.out,if_pos hF]
     subst hG
     have he:(S []).toList.isEmpty = true:=isEmpty_S []
     have hz:S [] = ⟨#[]⟩:=rfl
     rw [hz] at ca he
     clear HG hF HTE HTK hw HL HX HE
     have hb2:=(Below.refl wr.heap.size wr).alloc (Nat.le_refl _) (.cells #[.string (S x.1),.string (S x.2)] 82)
     have HB2:=Lib.hid (HBW.out.trans (hb2.mono HBW.out.size))
     have HO2:=Lib.hid (Own.owns_below HOWN.out hb2)
     clear hb2 HBW HOWN
     go_wp2_with fail
     generalize wr.alloc (.cells #[.string (S x.1),.string (S x.2)] 82) = W at *
     refine (ca _ (HV.out.on HB2.out)).mono ?_
     rintro e w1 ⟨rfl,k1⟩
     have hb1:=HB2.out.trans (k1.mono HB2.out.size)
     go_wp2_with fail
     go_ret
     exact ⟨rfl,hb1⟩
    | cons c0 t0 =>
     rw [hw] at ca
     have he:(S (c0 :: t0)).toList.isEmpty = false:=isEmpty_S (c0 :: t0)
     have hE2:∀ j,j < k + 1 → wPv (l.getD j nP) ≠ []:=fun j hj=>by
      by_cases e:j = k
      ·rw [e,HX.out,hw]; simp
      ·exact HE.out j (by omega)
     have hT2:tcells ((l.take (k + 1)).map wPv) = tcells ((l.take k).map wPv) ++ [.string (S (c0 :: t0))]:=by
      rw [HTK.out,List.map_append,List.map_singleton,hw,tcells_app]
     have HE2:=Lib.hid hE2
     have HT2:=Lib.hid hT2
     have hk70:k + 1 ≤ 70000:=by omega
     clear HTE HTK hw HL HX HE hE2 hT2
     generalize S (c0 :: t0) = y at *
     have hb2:=(Below.refl wr.heap.size wr).alloc (Nat.le_refl _) (.cells #[.string (S x.1),.string (S x.2)] 82)
     have HB2:=Lib.hid (HBW.out.trans (hb2.mono HBW.out.size))
     have HO2:=Lib.hid (Own.owns_below HOWN.out hb2)
     clear hb2 HBW HOWN
     go_wp2_with fail
     generalize wr.alloc (.cells #[.string (S x.1),.string (S x.2)] 82) = W at *
     refine (ca _ (HV.out.on HB2.out)).mono ?_
     rintro e w1 ⟨rfl,k1⟩
     have hb3:=(Below.refl w1.heap.size w1).alloc (Nat.le_refl _) (.cells #[.string y] 9)
     have hc3:=(Blk.Is.new w1 9 #[.string y]).at (i:=0) rfl
     obtain ⟨W3,hW3⟩:∃ W3,w1.alloc (.cells #[.string y] 9) = W3:=⟨_,rfl⟩
     rw [hW3] at hb3 hc3
     have HW3:=Lib.hid hW3
     have HC3:=Lib.hid hc3
     have HO3:=Lib.hid (Own.owns_below (Own.owns_below HO2.out k1) hb3)
     have HB3:=Lib.hid ((HB2.out.trans (k1.mono HB2.out.size)).trans (hb3.mono (HB2.out.trans (k1.mono HB2.out.size)).size))
     have HSZ:=Lib.hid HB3.out.size
     clear hW3 hc3 hb3 k1 HB2 HO2 ca
     go_wp2_with (at_builtin; rw [HW3.out]; refine append_el Tryz.underlying41 infoText rfl (by decide) rfl (.tmp 28) (.tmp 30) rfl w.heap.size (.slice pa k cp) k (tcells ((l.take k).map wPv)) rfl HO3.out w1.heap.size 1 rfl [.string y] rfl (one_cell HC3.out) (fun u hu=>by simp only [List.mem_singleton] at hu; rw [hu]; rfl) hk70 HSZ.out ?_; intro v' w4 h4 h5; have hb4:=Own.below_grown HB3.out HO3.out h5 HSZ.out; obtain ⟨a4,c4,rfl,_⟩:=own_shape h4; rw [← HT2.out] at h4; have H4:=Lib.hid h4; have HB4:=Lib.hid hb4; clear h4 h5 hb4 HW3 HC3 HO3 HB3)
     go_roundg g'
     case measure=>omega
     case rel=>exact ⟨k + 1,a4,c4,rfl,by go_num,H4.out,HB4.out,HE2.out,by omega,by omega⟩
   ·have hge:¬ (k:Int) < (n:Int):=by omega
    obtain rfl:k = n:=by omega
    have hfull:(l.any fun x=>(wPv x).isEmpty) = false:=any_full (z:=nP) fun j hj=>HE.out j (by rw [← HN.out]; exact hj)
    have hG:G = Lib.join (l.map wPv) sep:=by rw [← HG.out,if_neg (by rw [hfull]; simp)]
    have hps:(l.take k).map wPv = l.map wPv:=by rw [List.take_of_length_le (by rw [HN.out]; exact Nat.le_refl _)]
    rw [hps] at hown
    have hlen:(l.map wPv).length = k:=by rw [List.length_map]; exact HN.out
    have hjl:(Lib.join (l.map wPv) sep).length ≤ 140737488355328:=by
     have h1:=join_len sep 78 (l.map wPv) fun x hx=>by
      obtain ⟨a,_,rfl⟩:=List.mem_map.1 hx
      exact wPv_len a
     have h2:(l.map wPv).length * (78 + sep.length) ≤ 12 * 81:=Nat.mul_le_mul (by rw [hlen]; omega) (by omega)
     omega
    have cj:=join_any sep w.heap.size (.slice pa k cp) (l.map wPv) wr (by rw [hlen]; exact hown) (by rw [hlen]; omega) hjl
    rw [← hG] at cj
    clear HG hfull hps hlen hjl hown HE HL hG
    have HBW:=Lib.hid hbw
    clear hbw
    go_wp2_with fail
    refine cj.mono ?_
    rintro e w1 ⟨rfl,k1⟩
    have hb1:=HBW.out.trans (k1.mono HBW.out.size)
    go_wp2_with fail
    go_ret
    exact ⟨rfl,hb1⟩
theorem Text_any (v:Value) (l:List (List At)) (w:World) (h:Clss w v l) (hL:LimC l) (hv:Vars w) :
  Calls Tryz.prog 217 #[v] w fun e w'=>e = .returned (.string (S (text l))) ∧ Below w.heap.size w w':=by
 have ca:=writeC_any v l 12 [44,32] w h hL hv (by omega) (by decide)
 rw [show S [44,32] = ⟨#[44,32]⟩ from rfl,show wrt 12 [44,32] wCl l = text l from rfl] at ca
 obtain ⟨sa,cap,rfl⟩:=h.shape
 generalize l.length = n at *
 clear h hL hv
 generalize S (text l) = y at *
 go_enter Tryz.func217,Tryz.ntmps217
 go_wp2_with fail
 refine ca.mono ?_
 rintro e w1 ⟨rfl,k1⟩
 go_wp2_with fail
 go_ret
 exact ⟨rfl,k1⟩
theorem Atoms_any (v:Value) (l:List At) (w:World) (h:Ats w v l) (hL:LimA l) (hv:Vars w) :
  Calls Tryz.prog 218 #[v] w fun e w'=>e = .returned (.string (S (atoms l))) ∧ Below w.heap.size w w':=by
 have ca:=writeA_any v l 12 [44,32] w h hL hv (by omega) (by decide)
 rw [show S [44,32] = ⟨#[44,32]⟩ from rfl,show wrt 12 [44,32] wAt l = atoms l from rfl] at ca
 obtain ⟨sa,cap,rfl⟩:=h.shape
 generalize l.length = n at *
 clear h hL hv
 generalize S (atoms l) = y at *
 go_enter Tryz.func218,Tryz.ntmps218
 go_wp2_with fail
 refine ca.mono ?_
 rintro e w1 ⟨rfl,k1⟩
 go_wp2_with fail
 go_ret
 exact ⟨rfl,k1⟩
theorem Provides_any (v:Value) (l:List Pv) (w:World) (h:Pvs w v l) (hL:LimP l) (hv:Vars w) :
  Calls Tryz.prog 219 #[v] w fun e w'=>e = .returned (.string (S (provs l))) ∧ Below w.heap.size w w':=by
 have ca:=writeP_any v l 12 [44,32] w h hL hv (by omega) (by decide)
 rw [show S [44,32] = ⟨#[44,32]⟩ from rfl,show wrt 12 [44,32] wPv l = provs l from rfl] at ca
 obtain ⟨sa,cap,rfl⟩:=h.shape
 generalize l.length = n at *
 clear h hL hv
 generalize S (provs l) = y at *
 go_enter Tryz.func219,Tryz.ntmps219
 go_wp2_with fail
 refine ca.mono ?_
 rintro e w1 ⟨rfl,k1⟩
 go_wp2_with fail
 go_ret
 exact ⟨rfl,k1⟩
end Rl
end Go.Proofs.YthmpepnikmdjpaaGreatDoor
namespace Go.Proofs.YthmpepnikmdjpaaGreatDoor
open Go.RowKit
set_option linter.unusedSimpArgs false
set_option linter.unusedVariables false
namespace Rl
open Ver (Bs li li_len li_drop S S_self S_of S_size S_li below_drewN empty_is empty_no MaxLen Signs)
def awB:ByteArray:=⟨#[97,97,32,40,62,61,32,49,41,32,124,32,98,98,44,32,99,99,40,60,60,50,41]⟩
def awL:List (List At):=[[([97,97],4,[49]),([98,98],0,[])],[([99,99],1,[50])]]
theorem aw_parse:whole rdC (li awB) = .ok awL:=by
 have h:(match whole rdC (li awB) with | .ok l=>decide (l = awL) | .error _=>false) = true:=by decide +kernel
 cases hq:whole rdC (li awB) with
 | error e=>rw [hq] at h; cases h
 | ok l=>rw [hq] at h; rw [of_decide_eq_true h]
end Rl
end Go.Proofs.YthmpepnikmdjpaaGreatDoor
namespace Go.Proofs.YthmpepnikmdjpaaGreatDoor
open Go.RowKit
set_option linter.unusedSimpArgs false
set_option linter.unusedVariables false
namespace Va
open Ver (Bs li li_len S S_self S_size S_li)
open Rl (At Pv Ats Pvs Clss Cls Vars LimA LimP LimC text atoms provs pvA)
def wrB (s:ByteArray) (n:Nat):Bool:=!(s.toList == []) || decide (n = 0)
def wrT:Vl → ByteArray
 | .none=>⟨#[]⟩
 | .text s=>s
 | .count n=>⟨(Lib.itoa n).toArray⟩
 | .yes b=>if b then yesT else noT
 | .clauses l=>S (text l)
 | .atoms l=>S (atoms l)
 | .provs l=>S (provs l)
def wrK:Vl → Bool
 | .none=>false
 | .clauses l=>wrB (S (text l)) l.length
 | .atoms l=>wrB (S (atoms l)) l.length
 | .provs l=>wrB (S (provs l)) l.length
 | _=>true
def Vl.Lim (x:Vl):Prop:=LimC x.cls ∧ LimA x.ats ∧ LimP x.pvs ∧ (Lit.int .i64 x.cnt).wf = true
def Pow (w : World) : Prop := Lib.TabIs Tryz.prog w "internal/strconv.uint64pow10" .u64 Lib.pow10Tab
theorem Pow.on {w w':World} (h:Pow w) (hb:Below w.heap.size w w'):Pow w':=Lib.tabBelow_of_tabIs h w' hb
theorem below_grow (w:World) (os:Array Obj):Below w.heap.size w (Go.Sort.grow w os) :=
 ⟨rfl,rfl,rfl,by simp [Go.Sort.grow],fun k hk=>by simp [Go.Sort.grow,Array.getElem?_append_left hk]⟩
set_option maxRecDepth 100000 in
theorem itoa_any (n:Int) (hn:(Lit.int .i64 n).wf = true) (w:World) (hp:Pow w) :
  Calls Tryz.prog 214 #[.int .i64 n] w fun e w'=>e = .returned (.string ⟨(Lib.itoa n).toArray⟩) ∧ Below w.heap.size w w':=by
 have hb:-9223372036854775808 ≤ n ∧ n ≤ 9223372036854775807:=by
  simp [Lit.wf,IntKind.min,IntKind.max,IntKind.signed,IntKind.bits] at hn
  omega
 refine (Tryz.strconv_Itoa n hb.1 hb.2 w hp).mono ?_
 rintro e w' ⟨rfl,k,os,rfl⟩
 refine ⟨rfl,?_⟩
 have h1:=below_drewN w k
 exact h1.trans (below_grow (w.drewN k) os)
set_option maxRecDepth 100000 in
theorem written_any (s:ByteArray) (n:Nat) (w:World):Calls Tryz.prog 216 #[.string s,.int .i64 n] w fun e w'=>e = .returned (.tuple #[.string s,.bool (wrB s n)]) ∧ w' = w:=by
 by_cases h1:s.toList = []
 ·have e1:(s.toList == []) = true:=by rw [h1]; rfl
  by_cases h2:n = 0
  ·subst h2
   have hr:wrB s 0 = true:=by unfold wrB; rw [e1]; rfl
   rw [hr]
   go_enter Tryz.func216,Tryz.ntmps216
   go_wp2_with fail
   go_returns
   exact ⟨rfl,rfl⟩
  ·have hr:wrB s n = false:=by unfold wrB; rw [e1,decide_eq_false h2]; rfl
   have e2:((n:Int) == 0) = false:=by simp [h2]
   rw [hr]
   go_enter Tryz.func216,Tryz.ntmps216
   go_wp2_with fail
   go_returns
   exact ⟨rfl,rfl⟩
 ·have e1:(s.toList == []) = false:=beq_eq_false_iff_ne.2 h1
  have hr:wrB s n = true:=by unfold wrB; rw [e1]; rfl
  rw [hr]
  go_enter Tryz.func216,Tryz.ntmps216
  go_wp2_with fail
  go_returns
  exact ⟨rfl,rfl⟩
theorem writeYes_any (b:Bool) (w:World):Calls Tryz.prog 215 #[.bool b] w fun e w'=>e = .returned (.string (if b then yesT else noT)) ∧ w' = w:=by
 cases b
 all_goals
  unfold yesT noT
  go_enter Tryz.func215,Tryz.ntmps215
  go_wp2_with fail
  go_ret
  exact ⟨rfl,rfl⟩
set_option maxRecDepth 100000 in
set_option maxHeartbeats 4000000 in
theorem writeM_none  (w:World):Calls Tryz.prog 177 #[.agg #[.nilIface]] w fun e w'=>e = .returned (.tuple #[.string ⟨#[]⟩,.bool false]) ∧ Below w.heap.size w w':=by
 have hI:IsI (.nilIface):=.inl rfl
 have t1:=as_text hI
 have t2:=as_count hI
 have t3:=as_yes hI
 have t4:=as_clauses hI
 have t5:=as_atoms hI
 have t6:=as_provides hI
 simp [asT,asB] at t1 t2 t3 t4 t5 t6
 have hc0:=(Blk.Is.new w 97 #[.nilIface]).at (i:=0) rfl
 have hB0:Below w.heap.size w (w.alloc (.cells #[.nilIface] 97)):=(Below.refl _ _).alloc (Nat.le_refl _) _
 clear hI
 go_enter Tryz.func177,Tryz.ntmps177
 go_wp2_with fail
 go_returns
 exact ⟨rfl,hB0⟩
set_option maxRecDepth 100000 in
set_option maxHeartbeats 4000000 in
theorem writeM_text (s:ByteArray) (w:World):Calls Tryz.prog 177 #[.agg #[.iface 9 (.string s)]] w fun e w'=>e = .returned (.tuple #[.string s,.bool true]) ∧ Below w.heap.size w w':=by
 have hI:IsI (.iface 9 (.string s)):=.inr ⟨_,_,rfl⟩
 have t1:=as_text hI
 have t2:=as_count hI
 have t3:=as_yes hI
 have t4:=as_clauses hI
 have t5:=as_atoms hI
 have t6:=as_provides hI
 simp [asT,asB] at t1 t2 t3 t4 t5 t6
 have hc0:=(Blk.Is.new w 97 #[.iface 9 (.string s)]).at (i:=0) rfl
 have hB0:Below w.heap.size w (w.alloc (.cells #[.iface 9 (.string s)] 97)):=(Below.refl _ _).alloc (Nat.le_refl _) _
 clear hI
 go_enter Tryz.func177,Tryz.ntmps177
 go_wp2_with fail
 go_returns
 exact ⟨rfl,hB0⟩
set_option maxRecDepth 100000 in
set_option maxHeartbeats 4000000 in
theorem writeM_count (n:Int) (hn:(Lit.int .i64 n).wf = true) (w:World) (hp:Pow w):Calls Tryz.prog 177 #[.agg #[.iface 3 (.int .i64 n)]] w fun e w'=>e = .returned (.tuple #[.string ⟨(Lib.itoa n).toArray⟩,.bool true]) ∧ Below w.heap.size w w':=by
 have hI:IsI (.iface 3 (.int .i64 n)):=.inr ⟨_,_,rfl⟩
 have t1:=as_text hI
 have t2:=as_count hI
 have t3:=as_yes hI
 have t4:=as_clauses hI
 have t5:=as_atoms hI
 have t6:=as_provides hI
 simp [asT,asB] at t1 t2 t3 t4 t5 t6
 have hc0:=(Blk.Is.new w 97 #[.iface 3 (.int .i64 n)]).at (i:=0) rfl
 have hB0:Below w.heap.size w (w.alloc (.cells #[.iface 3 (.int .i64 n)] 97)):=(Below.refl _ _).alloc (Nat.le_refl _) _
 have c:=itoa_any n hn _ (hp.on hB0)
 clear hI hp hn
 generalize (⟨(Lib.itoa n).toArray⟩:ByteArray) = T at *
 go_enter Tryz.func177,Tryz.ntmps177
 go_wp2_with fail
 refine c.mono ?_
 rintro e w1 ⟨rfl,k1⟩
 have b1:=hB0.trans (k1.mono hB0.size)
 clear c k1 hB0 hc0
 go_wp2_with fail
 go_returns
 exact ⟨rfl,b1⟩
set_option maxRecDepth 100000 in
set_option maxHeartbeats 4000000 in
theorem writeM_yes (b:Bool) (w:World):Calls Tryz.prog 177 #[.agg #[.iface 4 (.bool b)]] w fun e w'=>e = .returned (.tuple #[.string (if b then yesT else noT),.bool true]) ∧ Below w.heap.size w w':=by
 have hI:IsI (.iface 4 (.bool b)):=.inr ⟨_,_,rfl⟩
 have t1:=as_text hI
 have t2:=as_count hI
 have t3:=as_yes hI
 have t4:=as_clauses hI
 have t5:=as_atoms hI
 have t6:=as_provides hI
 simp [asT,asB] at t1 t2 t3 t4 t5 t6
 have hc0:=(Blk.Is.new w 97 #[.iface 4 (.bool b)]).at (i:=0) rfl
 have hB0:Below w.heap.size w (w.alloc (.cells #[.iface 4 (.bool b)] 97)):=(Below.refl _ _).alloc (Nat.le_refl _) _
 have c:=writeYes_any b (w.alloc (.cells #[.iface 4 (.bool b)] 97))
 generalize (if b then yesT else noT) = T at *
 clear hI
 go_enter Tryz.func177,Tryz.ntmps177
 go_wp2_with fail
 refine c.mono ?_
 rintro e w1 ⟨rfl,rfl⟩
 clear c hc0
 go_wp2_with fail
 go_returns
 exact ⟨rfl,hB0⟩
set_option maxRecDepth 100000 in
set_option maxHeartbeats 4000000 in
theorem writeM_clauses (v:Value) (l:List (List At)) (w:World) (h:Clss w v l) (hL:LimC l) (hv:Vars w):Calls Tryz.prog 177 #[.agg #[.iface 27 v]] w fun e w'=>e = .returned (.tuple #[.string (S (text l)),.bool (wrB (S (text l)) l.length)]) ∧ Below w.heap.size w w':=by
 obtain ⟨a0,b0,rfl⟩:=h.shape
 have hB1:Below w.heap.size w (w.alloc (.cells #[.iface 27 (.slice a0 l.length b0)] 97)):=(Below.refl _ _).alloc (Nat.le_refl _) _
 have c:=Rl.Text_any _ l _ (h.below hB1) hL (hv.on hB1)
 obtain ⟨N,hN⟩:∃ N,l.length = N:=⟨_,rfl⟩
 rw [hN] at c hB1 ⊢
 clear h hL hv hN hB1
 have hI:IsI (.iface 27 (.slice a0 N b0)):=.inr ⟨_,_,rfl⟩
 have t1:=as_text hI
 have t2:=as_count hI
 have t3:=as_yes hI
 have t4:=as_clauses hI
 have t5:=as_atoms hI
 have t6:=as_provides hI
 simp [asT,asB] at t1 t2 t3 t4 t5 t6
 have hc0:=(Blk.Is.new w 97 #[.iface 27 (.slice a0 N b0)]).at (i:=0) rfl
 have hB0:Below w.heap.size w (w.alloc (.cells #[.iface 27 (.slice a0 N b0)] 97)):=(Below.refl _ _).alloc (Nat.le_refl _) _
 generalize S (text l) = T at *
 have cw:=fun w=>written_any T N w
 clear hI
 generalize wrB T N = G at *
 go_enter Tryz.func177,Tryz.ntmps177
 go_wp2_with fail
 refine c.mono ?_
 rintro e w1 ⟨rfl,k1⟩
 have b1:=hB0.trans (k1.mono hB0.size)
 clear c k1 hB0 hc0
 go_wp2_with fail
 refine (cw _).mono ?_
 rintro e w2 ⟨rfl,rfl⟩
 clear cw
 go_wp2_with fail
 go_returns
 exact ⟨rfl,b1⟩
set_option maxRecDepth 100000 in
set_option maxHeartbeats 4000000 in
theorem writeM_atoms (v:Value) (l:List At) (w:World) (h:Ats w v l) (hL:LimA l) (hv:Vars w):Calls Tryz.prog 177 #[.agg #[.iface 28 v]] w fun e w'=>e = .returned (.tuple #[.string (S (atoms l)),.bool (wrB (S (atoms l)) l.length)]) ∧ Below w.heap.size w w':=by
 obtain ⟨a0,b0,rfl⟩:=h.shape
 have hB1:Below w.heap.size w (w.alloc (.cells #[.iface 28 (.slice a0 l.length b0)] 97)):=(Below.refl _ _).alloc (Nat.le_refl _) _
 have c:=Rl.Atoms_any _ l _ (h.below hB1) hL (hv.on hB1)
 obtain ⟨N,hN⟩:∃ N,l.length = N:=⟨_,rfl⟩
 rw [hN] at c hB1 ⊢
 clear h hL hv hN hB1
 have hI:IsI (.iface 28 (.slice a0 N b0)):=.inr ⟨_,_,rfl⟩
 have t1:=as_text hI
 have t2:=as_count hI
 have t3:=as_yes hI
 have t4:=as_clauses hI
 have t5:=as_atoms hI
 have t6:=as_provides hI
 simp [asT,asB] at t1 t2 t3 t4 t5 t6
 have hc0:=(Blk.Is.new w 97 #[.iface 28 (.slice a0 N b0)]).at (i:=0) rfl
 have hB0:Below w.heap.size w (w.alloc (.cells #[.iface 28 (.slice a0 N b0)] 97)):=(Below.refl _ _).alloc (Nat.le_refl _) _
 generalize S (atoms l) = T at *
 have cw:=fun w=>written_any T N w
 clear hI
 generalize wrB T N = G at *
 go_enter Tryz.func177,Tryz.ntmps177
 go_wp2_with fail
 refine c.mono ?_
 rintro e w1 ⟨rfl,k1⟩
 have b1:=hB0.trans (k1.mono hB0.size)
 clear c k1 hB0 hc0
 go_wp2_with fail
 refine (cw _).mono ?_
 rintro e w2 ⟨rfl,rfl⟩
 clear cw
 go_wp2_with fail
 go_returns
 exact ⟨rfl,b1⟩
set_option maxRecDepth 100000 in
set_option maxHeartbeats 4000000 in
theorem writeM_provs (v:Value) (l:List Pv) (w:World) (h:Pvs w v l) (hL:LimP l) (hv:Vars w):Calls Tryz.prog 177 #[.agg #[.iface 29 v]] w fun e w'=>e = .returned (.tuple #[.string (S (provs l)),.bool (wrB (S (provs l)) l.length)]) ∧ Below w.heap.size w w':=by
 obtain ⟨a0,b0,rfl⟩:=h.shape
 have hB1:Below w.heap.size w (w.alloc (.cells #[.iface 29 (.slice a0 l.length b0)] 97)):=(Below.refl _ _).alloc (Nat.le_refl _) _
 have c:=Rl.Provides_any _ l _ (h.below hB1) hL (hv.on hB1)
 obtain ⟨N,hN⟩:∃ N,l.length = N:=⟨_,rfl⟩
 rw [hN] at c hB1 ⊢
 clear h hL hv hN hB1
 have hI:IsI (.iface 29 (.slice a0 N b0)):=.inr ⟨_,_,rfl⟩
 have t1:=as_text hI
 have t2:=as_count hI
 have t3:=as_yes hI
 have t4:=as_clauses hI
 have t5:=as_atoms hI
 have t6:=as_provides hI
 simp [asT,asB] at t1 t2 t3 t4 t5 t6
 have hc0:=(Blk.Is.new w 97 #[.iface 29 (.slice a0 N b0)]).at (i:=0) rfl
 have hB0:Below w.heap.size w (w.alloc (.cells #[.iface 29 (.slice a0 N b0)] 97)):=(Below.refl _ _).alloc (Nat.le_refl _) _
 generalize S (provs l) = T at *
 have cw:=fun w=>written_any T N w
 clear hI
 generalize wrB T N = G at *
 go_enter Tryz.func177,Tryz.ntmps177
 go_wp2_with fail
 refine c.mono ?_
 rintro e w1 ⟨rfl,k1⟩
 have b1:=hB0.trans (k1.mono hB0.size)
 clear c k1 hB0 hc0
 go_wp2_with fail
 refine (cw _).mono ?_
 rintro e w2 ⟨rfl,rfl⟩
 clear cw
 go_wp2_with fail
 go_returns
 exact ⟨rfl,b1⟩
theorem writeM_any {B:Nat} {iv:Value} {x:Vl} {w:World} (h:VAt B w iv x) (hL:x.Lim) (hv:Vars w) (hp:Pow w) :
  Calls Tryz.prog 177 #[.agg #[iv]] w fun e w'=>e = .returned (.tuple #[.string (wrT x),.bool (wrK x)]) ∧ Below w.heap.size w w':=by
 cases x with
 | none=>obtain rfl:=h; exact writeM_none w
 | text s=>obtain rfl:=h; exact writeM_text s w
 | count n=>obtain rfl:=h; exact writeM_count n hL.2.2.2 w hp
 | yes b=>obtain rfl:=h; exact writeM_yes b w
 | clauses l=>obtain ⟨v,rfl,hh⟩:=h; exact writeM_clauses v l w hh.here hL.1 hv
 | atoms l=>obtain ⟨v,rfl,hh⟩:=h; exact writeM_atoms v l w hh.here hL.2.1 hv
 | provs l=>obtain ⟨v,rfl,hh⟩:=h; exact writeM_provs v l w hh.here hL.2.2.1 hv
set_option maxRecDepth 100000 in
set_option maxHeartbeats 4000000 in
theorem write_any {B:Nat} {iv:Value} {x:Vl} {w:World} (h:VAt B w iv x) (hL:x.Lim) (hv:Vars w) (hp:Pow w) :
  Calls Tryz.prog 126 #[.agg #[iv]] w fun e w'=>e = .returned (.tuple #[.string (wrT x),.bool (wrK x)]) ∧ Below w.heap.size w w':=by
 have hb0:=(Blk.Is.new w 97 #[iv]).at (i:=0) rfl
 have hB0:Below w.heap.size w (w.alloc (.cells #[iv] 97)):=(Below.refl _ _).alloc (Nat.le_refl _) _
 have c:=writeM_any (h.below hB0) hL (hv.on hB0) (hp.on hB0)
 generalize wrT x = T at *
 generalize wrK x = G at *
 clear h hL hv hp
 go_enter Tryz.func126,Tryz.ntmps126
 go_wp2_with fail
 refine c.mono ?_
 rintro e w' ⟨rfl,kb⟩
 have k:=hB0.trans (kb.mono hB0.size)
 clear kb hB0 hb0 c
 go_wp2_with fail
 go_returns
 exact ⟨rfl,k⟩
end Va
end Go.Proofs.YthmpepnikmdjpaaGreatDoor
namespace Go.Proofs.YthmpepnikmdjpaaGreatDoor
set_option linter.unusedSimpArgs false
set_option linter.unusedVariables false
namespace Txt
def W (c:UInt8):Bool:=wht c.toNat
def White (x:List UInt8):Prop:=∀ c ∈ x,W c = true
def trimLeft:List UInt8 → List UInt8
 | []=>[]
 | c :: l=>if W c = true then trimLeft l else c :: l
def trimRight (l:List UInt8):List UInt8:=(trimLeft l.reverse).reverse
def trimL (l:List UInt8):List UInt8:=trimRight (trimLeft l)
theorem trimLeft_eq (l:List UInt8):∃ x,White x ∧ l = x ++ trimLeft l ∧ (trimLeft l = [] ∨ ∃ c r,trimLeft l = c :: r ∧ W c = false):=by
 induction l with
 | nil=>exact ⟨[],(fun _ h=>by cases h),rfl,.inl rfl⟩
 | cons c l ih =>
  unfold trimLeft
  by_cases hw:W c = true
  ·rw [if_pos hw]
   obtain ⟨x,h1,h2,h3⟩:=ih
   refine ⟨c :: x,fun d hd=>?_,by rw [List.cons_append,← h2],h3⟩
   rcases List.mem_cons.1 hd with rfl | hd
   ·exact hw
   ·exact h1 d hd
  ·rw [if_neg hw]
   rw [Bool.not_eq_true] at hw
   exact ⟨[],(fun _ h=>by cases h),rfl,.inr ⟨c,l,rfl,hw⟩⟩
theorem trimLeft_front {x:List UInt8} (h:White x) (l:List UInt8):trimLeft (x ++ l) = trimLeft l:=by
 induction x with
 | nil=>rfl
 | cons c x ih =>
  rw [List.cons_append]
  unfold trimLeft
  rw [if_pos (h c (.head _)),ih (fun d hd=>h d (.tail _ hd))]
  cases l <;> rfl
theorem trimLeft_keep {c:UInt8} (h:W c = false) (l:List UInt8):trimLeft (c :: l) = c :: l:=by
 unfold trimLeft; rw [h]; rfl
theorem white_rev {x:List UInt8} (h:White x):White x.reverse:=fun d hd=>h d (List.mem_reverse.1 hd)
theorem trimRight_back {x:List UInt8} (h:White x) (l:List UInt8):trimRight (l ++ x) = trimRight l:=by
 unfold trimRight
 rw [List.reverse_append,trimLeft_front (white_rev h)]
theorem trimRight_keep {c:UInt8} (h:W c = false) (l:List UInt8):trimRight (l ++ [c]) = l ++ [c]:=by
 unfold trimRight
 rw [List.reverse_append]
 show (trimLeft (c :: l.reverse)).reverse = _
 rw [trimLeft_keep h]
 simp
theorem trimRight_eq (l:List UInt8):∃ x,White x ∧ l = trimRight l ++ x ∧ (trimRight l = [] ∨ ∃ c r,trimRight l = r ++ [c] ∧ W c = false):=by
 obtain ⟨x,h1,h2,h3⟩:=trimLeft_eq l.reverse
 refine ⟨x.reverse,white_rev h1,?_,?_⟩
 ·unfold trimRight
  rw [← List.reverse_append,← h2,List.reverse_reverse]
 ·rcases h3 with h | ⟨c,r,h,hc⟩
  ·left; unfold trimRight; rw [h]; rfl
  ·right; exact ⟨c,r.reverse,by unfold trimRight; rw [h]; simp,hc⟩
theorem trimLeft_append {l r:List UInt8} (h:trimLeft l ≠ []):trimLeft (l ++ r) = trimLeft l ++ r:=by
 induction l with
 | nil=>exact absurd rfl h
 | cons c l ih =>
  rw [List.cons_append]
  by_cases hw:W c = true
  ·have e1:trimLeft (c :: l) = trimLeft l:=by conv=>lhs; unfold trimLeft
                                              rw [if_pos hw]
   have e2:trimLeft (c :: (l ++ r)) = trimLeft (l ++ r):=by conv=>lhs; unfold trimLeft
                                                            rw [if_pos hw]
   rw [e1] at h ⊢
   rw [e2,ih h]
  ·rw [Bool.not_eq_true] at hw
   rw [trimLeft_keep hw,trimLeft_keep hw]; rfl
theorem trimRight_first {c:UInt8} (h:W c = false) (l:List UInt8):∃ r,trimRight (c :: l) = c :: r:=by
 unfold trimRight
 rw [List.reverse_cons]
 by_cases e:trimLeft l.reverse = []
 ·obtain ⟨x,h1,h2,_⟩:=trimLeft_eq l.reverse
  rw [e,List.append_nil] at h2
  rw [h2,trimLeft_front h1,trimLeft_keep h]
  exact ⟨[],rfl⟩
 ·rw [trimLeft_append e]
  simp
end Txt
end Go.Proofs.YthmpepnikmdjpaaGreatDoor
namespace Go.Proofs.YthmpepnikmdjpaaGreatDoor
open Go.Lib
set_option linter.unusedSimpArgs false
set_option linter.unusedVariables false
namespace Txt
theorem len_list (s:ByteArray):s.data.toList.length = s.size:=by rw [Array.length_toList]; rfl
theorem drop_cons (s:ByteArray) (k:Nat) (h:k < s.size):∃ c,s.data.toList.drop k = c :: s.data.toList.drop (k + 1) ∧ c.toNat = b s k:=by
 have hl:k < s.data.toList.length:=by rw [len_list]; exact h
 refine ⟨s.data.toList[k],List.drop_eq_getElem_cons hl,?_⟩
 unfold b
 rw [dif_pos h]
 rfl
theorem W_b {s:ByteArray} {k:Nat} {c:UInt8} (h:c.toNat = b s k):W c = wht (b s k):=by unfold W; rw [h]
theorem wht_high {r:Nat} (h:128 ≤ r):wht r = false:=by unfold wht; simp; omega
theorem sz_bytes (s:ByteArray) (i:Nat) (h:128 ≤ b s i):∀ j,j < sz s i → 128 ≤ b s (i + j):=by
 intro j hj
 have o:=fun k lo hi (q:on s k lo hi = true)=>(on_iff s k lo hi).1 q
 unfold sz at hj
 simp only at hj
 rw [if_neg (by omega)] at hj
 rcases (by omega:j = 0 ∨ j = 1 ∨ j = 2 ∨ j = 3 ∨ 4 ≤ j) with rfl | rfl | rfl | rfl | hj4
 ·exact h
 all_goals
  split at hj
  ·next q=>first | omega | (have:=(o _ _ _ q.2.2).2.1; omega)
  split at hj
  ·next q=>first | omega | (have q1:=(o _ _ _ q.2.1).2.1; have q2:=(o _ _ _ q.2.2).2.1; omega)
  split at hj
  ·next q=>first | omega | (have q1:=(o _ _ _ q.2.1).2.1; have q2:=(o _ _ _ q.2.2).2.1; omega)
  split at hj
  ·next q=>first | omega | (have q1:=(o _ _ _ q.2.2.2.1).2.1; have q2:=(o _ _ _ q.2.2.2.2).2.1; omega)
  split at hj
  ·next q=>first | omega | (have q1:=(o _ _ _ q.2.1).2.1; have q2:=(o _ _ _ q.2.2.1).2.1; have q3:=(o _ _ _ q.2.2.2).2.1; omega)
  split at hj
  ·next q=>first | omega | (have q1:=(o _ _ _ q.2.1).2.1; have q2:=(o _ _ _ q.2.2.1).2.1; have q3:=(o _ _ _ q.2.2.2).2.1; omega)
  split at hj
  ·next q=>first | omega | (have q1:=(o _ _ _ q.2.2.1).2.1; have q2:=(o _ _ _ q.2.2.2.1).2.1; have q3:=(o _ _ _ q.2.2.2.2).2.1; omega)
  omega
theorem step (s:ByteArray) (k:Nat) (h:k < s.size):(wht (Utf8.decode s k).1 = true ∧ (Utf8.decode s k).2 = 1 ∧ wht (b s k) = true) ∨
  (wht (Utf8.decode s k).1 = false ∧ 1 ≤ (Utf8.decode s k).2 ∧ k + (Utf8.decode s k).2 ≤ s.size ∧ ∀ j,j < (Utf8.decode s k).2 → wht (b s (k + j)) = false):=by
 by_cases hb:b s k < 128
 ·rw [dec_low s k h hb]
  cases hw:wht (b s k)
  ·exact .inr ⟨rfl,by omega,by show k + 1 ≤ s.size; omega,fun j hj=>by
    have:j = 0:=by have:j < 1:=hj
                   omega
    subst this; exact hw⟩
  ·exact .inl ⟨rfl,rfl,rfl⟩
 ·right
  rcases dec_high s k h (by omega) with ⟨h0,hd⟩ | ⟨h1,h2,h3,h4⟩
  ·rw [hd]
   refine ⟨by decide,by omega,by show k + 1 ≤ s.size; omega,fun j hj=>?_⟩
   have:j = 0:=by have:j < 1:=hj
                  omega
   subst this; rw [Nat.add_zero]; exact wht_high (by omega)
  ·rw [h3]
   exact ⟨wht_high h4,by omega,h2,fun j hj=>wht_high (sz_bytes s k (by omega) j hj)⟩
theorem ext_list (s:ByteArray) (i j:Nat) (h:j ≤ s.size):(s.extract i j).data.toList = (s.data.toList.drop i).take (j - i):=by
 simp [ByteArray.data_extract,List.extract_eq_take_drop]
theorem left_from (s:ByteArray):∀ f pos,s.size ≤ pos + f → pos ≤ s.size →
  (idxFuncFrom wht false s f pos = -1 ∧ trimLeft (s.data.toList.drop pos) = []) ∨ ∃ n:Nat,n < s.size ∧ idxFuncFrom wht false s f pos = (n:Int) ∧ trimLeft (s.data.toList.drop pos) = s.data.toList.drop n:=by
 intro f
 induction f with
 | zero =>
  intro pos hf hp
  left
  rw [show pos = s.size by omega,show s.data.toList.drop s.size = [] by rw [← len_list]; exact List.drop_length]
  exact ⟨rfl,rfl⟩
 | succ f ih =>
  intro pos hf hp
  by_cases hlt:pos < s.size
  ·unfold idxFuncFrom
   rw [if_pos hlt]
   obtain ⟨c,hc,hcb⟩:=drop_cons s pos hlt
   rcases step s pos hlt with ⟨h1,h2,h3⟩ | ⟨h1,h2,h3,h4⟩
   ·rw [if_neg (by rw [h1]; simp),h2,hc]
    have e:trimLeft (c :: s.data.toList.drop (pos + 1)) = trimLeft (s.data.toList.drop (pos + 1)):=by
     conv=>lhs; unfold trimLeft
     rw [if_pos (by rw [W_b hcb]; exact h3)]
    rw [e]
    exact ih (pos + 1) (by omega) (by omega)
   ·rw [if_pos h1]
    right
    refine ⟨pos,hlt,rfl,?_⟩
    rw [hc]
    have:=h4 0 (by omega)
    rw [Nat.add_zero] at this
    exact trimLeft_keep (by rw [W_b hcb]; exact this) _
  ·left
   rw [idxFuncFrom_end wht false s _ pos hlt,show pos = s.size by omega,show s.data.toList.drop s.size = [] by rw [← len_list]; exact List.drop_length]
   exact ⟨rfl,rfl⟩
theorem left_list (s:ByteArray):(trimLeftF wht s).data.toList = trimLeft s.data.toList:=by
 have:=left_from s s.size 0 (by omega) (by omega)
 rw [List.drop_zero] at this
 unfold trimLeftF idxFunc
 rcases this with ⟨h1,h2⟩ | ⟨n,h0,h1,h2⟩
 ·rw [if_pos h1,h2]
 ·rw [if_neg (by omega),h1,h2,Int.toNat_natCast,ext_list s n s.size (by omega)]
  exact List.take_of_length_le (by rw [List.length_drop,len_list]; omega)
theorem getD_b (s:ByteArray) (k:Nat) (h:k < s.size):(s.data.toList.getD k 0).toNat = b s k:=by
 rw [getD_get!',b_get s k h]
theorem take_snoc (s:ByteArray) (i:Nat) (h:i < s.size):∃ c,s.data.toList.take (i + 1) = s.data.toList.take i ++ [c] ∧ c.toNat = b s i:=by
 have hl:i < s.data.toList.length:=by rw [len_list]; exact h
 refine ⟨s.data.toList[i],by rw [List.take_succ_eq_append_getElem hl],?_⟩
 unfold b
 rw [dif_pos h]
 rfl
theorem right_from (s:ByteArray):∀ f i,i ≤ f → i ≤ s.size → OpenAt s.data.toList i →
  (lastIdxFuncFrom wht false s f i = -1 ∧ trimRight (s.data.toList.take i) = []) ∨
  ∃ n:Nat,n < s.size ∧ lastIdxFuncFrom wht false s f i = (n:Int) ∧ n + (Utf8.decode s n).2 ≤ s.size ∧ trimRight (s.data.toList.take i) = s.data.toList.take (n + (Utf8.decode s n).2):=by
 intro f
 induction f with
 | zero =>
  intro i hf hp _
  left
  rw [show i = 0 by omega]
  exact ⟨rfl,rfl⟩
 | succ f ih =>
  intro i hf hp ho
  by_cases h0:0 < i
  ·unfold lastIdxFuncFrom
   rw [if_pos h0]
   have hil:i ≤ s.data.toList.length:=by rw [len_list]; exact hp
   have hfw:=fw_width s.data.toList i h0 hil ho
   have hlc:=last_cases s.data.toList i h0 hil
   obtain ⟨m,rfl⟩:∃ m,i = m + 1:=⟨i - 1,by omega⟩
   rw [Nat.add_sub_cancel] at hlc
   have hgb:=getD_b s m (by omega)
   rw [hgb] at hlc
   obtain ⟨c,hc,hcb⟩:=take_snoc s m (by omega)
   have hwid:wht (decodeLastL (s.data.toList.take (m + 1))).1 = wht (b s m) ∧ (wht (b s m) = true → (decodeLastL (s.data.toList.take (m + 1))).2 = 1) ∧ (decodeLastL (s.data.toList.take (m + 1))).2 ≤ m + 1 ∧ 1 ≤ (decodeLastL (s.data.toList.take (m + 1))).2:=by
    have hw:=decodeLastL_width (s.data.toList.take (m + 1)) (by rw [List.length_take]; omega)
    rw [List.length_take] at hw
    refine ⟨?_,?_,by omega,hw.1⟩
    ·rcases hlc with ⟨ha,hd⟩ | ⟨ha,hd⟩ | ⟨ha,st,hst,hd,hsum⟩
     ·rw [hd]
     ·rw [hd,wht_high (show 128 ≤ ((65533,1):Nat × Nat).1 by decide),wht_high ha]
     ·rw [wht_high ha]
      rw [hd]
      have:128 ≤ (decodeL ((s.data.toList.take (m + 1)).drop st)).1:=by
       have hsz:(⟨((s.data.toList.take (m + 1)).drop st).toArray⟩:ByteArray).size = m + 1 - st:=by
        show ((s.data.toList.take (m + 1)).drop st).toArray.size = _
        rw [List.size_toArray,List.length_drop,List.length_take]; omega
       generalize hq:(⟨((s.data.toList.take (m + 1)).drop st).toArray⟩:ByteArray) = q at hsz
       have hdq:decodeL ((s.data.toList.take (m + 1)).drop st) = Utf8.decode q 0:=by unfold decodeL; rw [hq]
       rw [hdq] at hsum ⊢
       by_cases hlow:b q 0 < 128
       ·exfalso
        rw [dec_low q 0 (by omega) hlow] at hsum
        have hsm:st = m:=by have:st + 1 = m + 1:=hsum
                            omega
        have e:b q 0 = b s m:=by
         have:=b_get q 0 (by omega)
         rw [← this,← getD_get!',← hq]
         show (((s.data.toList.take (m + 1)).drop st).toArray.toList.getD 0 0).toNat = _
         rw [List.toList_toArray,getD_dropU,Nat.add_zero,hsm,getD_takeU _ _ _ (by omega)]; exact hgb
        omega
       ·rcases dec_high q 0 (by omega) (by omega) with ⟨_,h⟩ | ⟨_,_,_,h⟩
        ·rw [h]; decide
        ·exact h
      exact wht_high this
    ·intro hw1
     rcases hlc with ⟨ha,hd⟩ | ⟨ha,hd⟩ | ⟨ha,st,hst,hd,hsum⟩
     ·rw [hd]
     ·rw [hd]
     ·rw [wht_high ha] at hw1; cases hw1
   obtain ⟨hw1,hw2,hw3,hw4⟩:=hwid
   rw [hw1]
   cases hwb:wht (b s m)
   ·rw [if_pos rfl]
    right
    rw [decodeL_drop] at hfw
    refine ⟨m + 1 - (decodeLastL (s.data.toList.take (m + 1))).2,by omega,rfl,by rw [hfw]; omega,?_⟩
    rw [hfw,show m + 1 - (decodeLastL (s.data.toList.take (m + 1))).2 + (decodeLastL (s.data.toList.take (m + 1))).2 = m + 1 by omega,hc]
    exact trimRight_keep (by rw [W_b hcb]; exact hwb) _
   ·rw [if_neg (by simp),hw2 hwb,Nat.add_sub_cancel]
    have hopen:OpenAt s.data.toList m:=.inr (by
     rw [hgb]
     unfold wht at hwb
     simp at hwb
     omega)
    have e:trimRight (s.data.toList.take (m + 1)) = trimRight (s.data.toList.take m):=by
     rw [hc]
     exact trimRight_back (fun d hd=>by rw [List.mem_singleton.1 hd,W_b hcb]; exact hwb) _
    rw [e]
    exact ih m (by omega) (by omega) hopen
  ·left
   rw [show i = 0 by omega]
   exact ⟨lastIdxFuncFrom_zero wht false s _,rfl⟩
theorem right_list (s:ByteArray):(trimRightF wht s).data.toList = trimRight s.data.toList:=by
 have:=right_from s s.size s.size (by omega) (by omega) (.inl (len_list s).symm)
 rw [List.take_of_length_le (by rw [len_list]; omega)] at this
 unfold trimRightF rightEndF lastIdxFunc
 rcases this with ⟨h1,h2⟩ | ⟨n,h0,h1,hle,h2⟩
 ·rw [if_neg (by omega),h2,ext_list s 0 0 (by omega)]
  rfl
 ·rw [if_pos (by omega),h1,Int.toNat_natCast,h2]
  have hd:decodeGoB (s.extract n s.size) = Utf8.decode s n:=decode_drop s n h0
  rw [hd,ext_list s 0 _ hle]
  rfl
theorem trim_list (s:ByteArray):(trimF wht s).data.toList = trimL s.data.toList:=by
 unfold trimF trimL
 rw [right_list,left_list]
end Txt
end Go.Proofs.YthmpepnikmdjpaaGreatDoor

/-
write, of atoms. write, of clauses and of what is provided; Text, Atoms, Provides. write, of what is provided; Text, Atoms, Provides. The relation that every program must know. Write: a value as a text; the reference's Write. Words and trimmed texts, by lists of bytes. The library's FieldsFunc and TrimFunc at white space are the words, and the trimmed text, by bytes.
-/
import Derived.Test.YthmpepnikmdjpaaGreatDoorARelLists
import Derived.Test.YthmpepnikmdjpaaGreatDoorARelAtom
import Derived.Test.YthmpepnikmdjpaaGreatDoorATextAwake
import Derived.Test.YthmpepnikmdjpaaGreatDoorAValSort
import Derived.Test.YthmpepnikmdjpaaGreatDoorShelf
import Derived.Test.YthmpepnikmdjpaaGreatDoorARelSingles
import Derived.Lib.AppendIntMem
import Derived.Deep.QuietTactic
import Derived.Test.YthmpepnikmdjpaaGreatDoorATextSmallK
import Derived.Lib.TrimUEq
import Derived.Lib.FieldsP
namespace Go.Proofs.YthmpepnikmdjpaaGreatDoor
open Go.RowKit
set_option linter.unusedSimpArgs false
set_option linter.unusedVariables false
namespace Rl
open Ver (Bs li li_len li_drop S S_self S_of S_size S_li below_drewN empty_is empty_no MaxLen Signs)
theorem infoText:(Tryz.prog.info? 9).map (fun i=>(i.zero,i.size,i.bytes)) = some (some (.string ByteArray.empty),1,16):=by kernel_rfl
def tcells (ps:List Bs):List Value:=(ps.map S).map Value.string
theorem tcells_app (ps:List Bs) (p:Bs):tcells (ps ++ [p]) = tcells ps ++ [.string (S p)]:=by unfold tcells; simp
set_option maxRecDepth 100000 in
set_option maxHeartbeats 4000000 in
theorem join_none (sep:Bs) (w:World):Calls Tryz.prog 151 #[.slice none 0 0,.string (S sep)] w fun e w'=>e = .returned (.string (S [])) ∧ w' = w:=by
 have hz:S [] = ⟨#[]⟩:=rfl
 rw [hz]
 go_enter Tryz.func151,Tryz.ntmps151
 go_wp2_with fail
 go_ret
 exact ⟨rfl,rfl⟩
theorem join_any (sep:Bs) (B:Nat) (v:Value) (ps:List Bs) (w:World) (h:w.ownsRow B 9 1 v ps.length (tcells ps)) (hn:ps.length ≤ 1000000) (hl:(Lib.join ps sep).length ≤ 140737488355328) :
  Calls Tryz.prog 151 #[v,.string (S sep)] w fun e w'=>e = .returned (.string (S (Lib.join ps sep))) ∧ Below w.heap.size w w':=by
 have hse:(S sep).data.toList = sep:=S_li sep
 by_cases h0:ps.length = 0
 ·obtain rfl:ps = []:=List.length_eq_zero_iff.1 h0
  rcases h.2 with ⟨rfl,_⟩ | ⟨g,cap,cur,rfl,hg,hh,hc,hm,hs,ht⟩
  ·exact (join_none sep w).mono fun e w' hh=>⟨hh.1,by rw [hh.2]; exact Below.refl _ _⟩
  ·have:=Tryz.strings_Join g 0 cap [] (S sep) w (fun j x hj=>by cases hj) (Array.getElem?_eq_some_iff.1 hh).1 (by simp) (by simp) (by simp [Lib.join])
   exact this
 ·obtain ⟨g,cap,rfl,hc⟩:=own_slice h (by omega)
  have hcell:∀ (j:Nat) x,(ps.map S)[j]? = some x → w.cell? ⟨g,0 + j,none⟩ = some (.string x):=fun j x hj=>by
   rw [Nat.zero_add]
   exact own_cell h (by unfold tcells; rw [List.getElem?_map,hj]; rfl)
  have hlt:=(own_lt h (k:=g) rfl).2
  have hmap:(ps.map S).map (fun t:ByteArray=>t.data.toList) = ps:=by
   rw [List.map_map]
   conv=>rhs; rw [← List.map_id ps]
   exact List.map_congr_left fun x _=>S_li x
  have:=Tryz.strings_Join g 0 cap (ps.map S) (S sep) w hcell hlt (by rw [List.length_map]; omega) (by rw [List.length_map]; exact hc) (by rw [hmap,hse]; exact hl)
  rw [hmap,hse,List.length_map] at this
  exact this
theorem take_one {α:Type} {l:List α} {z:α} {k:Nat} (h:k < l.length):l.take (k + 1) = l.take k ++ [l.getD k z]:=by
 rw [List.take_succ_eq_append_getElem h]
 simp [List.getD,List.getElem?_eq_getElem h]
theorem any_empty {α:Type} {f:α → Bs} {l:List α} {z:α} {k:Nat} (h:k < l.length) (he:f (l.getD k z) = []):(l.any fun x=>(f x).isEmpty) = true:=by
 rw [List.any_eq_true]
 exact ⟨_,mem_getD h,by rw [he]; rfl⟩
theorem any_full {α:Type} {f:α → Bs} {l:List α} {z:α} (h:∀ j,j < l.length → f (l.getD j z) ≠ []):(l.any fun x=>(f x).isEmpty) = false:=by
 rw [List.any_eq_false]
 intro x hx
 obtain ⟨j,hj,rfl⟩:=List.mem_iff_getElem.1 hx
 have:=h j hj
 simp only [List.getD,List.getElem?_eq_getElem hj,Option.getD_some] at this
 intro hc
 cases hq:f l[j] with
 | nil=>exact this hq
 | cons c t=>rw [hq] at hc; cases hc
set_option maxRecDepth 100000 in
set_option maxHeartbeats 4000000 in
theorem writeA_any (v:Value) (l:List At) (most:Nat) (sep:Bs) (w:World) (h:Ats w v l) (hL:LimA l) (hv:Vars w) (hm:most ≤ 12) (hsep:sep.length ≤ 3) :
  Calls Tryz.prog 255 #[v,.int .i64 most,.string (S sep),.func (.func 256) #[] #[]] w fun e w'=>e = .returned (.string (S (wrt most sep wAt l))) ∧ Below w.heap.size w w':=by
 obtain ⟨sa,cap,rfl⟩:=h.shape
 unfold wrt
 by_cases hmost:most < l.length
 ·rw [if_pos hmost]
  have hm':(most:Int) < (l.length:Int):=by omega
  have hz:S [] = ⟨#[]⟩:=rfl
  rw [hz]
  generalize l.length = n at *
  clear h hL hv
  go_enter Tryz.func255,Tryz.ntmps255
  go_wp2_with fail
  go_ret
  exact ⟨rfl,Below.refl _ _⟩
 ·rw [if_neg hmost]
  have hm':¬ (most:Int) < (l.length:Int):=by omega
  obtain ⟨G,hG⟩:∃ G,(if (l.any fun x=>(wAt x).isEmpty) = true then [] else Lib.join (l.map wAt) sep) = G:=⟨_,rfl⟩
  have HG:=Lib.hid hG
  rw [hG]
  have H:=Lib.hid h
  have HL:=Lib.hid hL
  have HV:=Lib.hid hv
  clear hG h hL hv
  obtain ⟨n,hn⟩:∃ n,l.length = n:=⟨_,rfl⟩
  have HN:=Lib.hid hn
  rw [hn] at hmost hm' ⊢
  clear hn
  go_enter Tryz.func255,Tryz.ntmps255
  go_wp2_with fail
  go_loopg [9,19] n (fun gf s9 s19 wx=>∃ (k:Nat) (pa:Option Addr) (cp:Nat),s9 = .slice pa k cp ∧ s19 = .int .i64 k ∧ wx.ownsRow w.heap.size 9 1 (.slice pa k cp) k (tcells ((l.take k).map wAt)) ∧ Below w.heap.size w wx ∧ Hid (∀ j,j < k → wAt (l.getD j nA) ≠ []) ∧ k ≤ n ∧ n ≤ k + gf)
  case atStart=>exact ⟨0,none,0,rfl,rfl,World.ownsRow_nil w _ _ 1,Below.refl _ _,fun j hj=>absurd hj (by omega),by omega,by omega⟩
  case round =>
   obtain ⟨k,pa,cp,rfl,rfl,hown,hbw,HE,hkn,hfu⟩:=hrel
   by_cases hlt:k < n
   ·obtain ⟨g',rfl⟩:∃ g',gk = g' + 1:=⟨gk - 1,by omega⟩
    have hlt':(k:Int) < (n:Int):=by omega
    have hk0:(0:Int) ≤ k:=by omega
    have hkl:k < l.length:=by rw [HN.out]; exact hlt
    obtain ⟨_,a',cap',e1,_,hcells⟩:=H.out.below hbw
    simp only [Value.slice.injEq,true_and] at e1
    obtain ⟨rfl,rfl⟩:=e1
    obtain ⟨kb,off,rfl,hcl2⟩:=hcells (by omega)
    obtain ⟨x0,x1,x2⟩:=hcl2 k hkl
    rw [Nat.mul_comm 3 k] at x0 x1 x2
    have hmem:=mem_getD (z:=nA) hkl
    have hlim:=HL.out _ hmem
    have htk:=take_one (z:=nA) hkl
    have hte:=fun h=>any_empty (f:=wAt) (z:=nA) hkl h
    have HTK:=Lib.hid htk
    have HTE:=Lib.hid hte
    have HOWN:=Lib.hid hown
    have HBW:=Lib.hid hbw
    have ca:=fun w hv=>atom_any (l.getD k nA) w (by omega) (by omega) hv
    unfold aV at ca
    generalize hx:l.getD k nA = x at *
    have HX:=Lib.hid hx
    clear hcl2 hcells hown hbw hmem hlim htk hte hx
    cases hw:wAt x with
    | nil =>
     rw [hw] at ca
     have hF:=HTE.out hw
     have hG:G = []:=by rw [← HG.out,if_pos hF]
     subst hG
     have he:(S []).toList.isEmpty = true:=isEmpty_S []
     have hz:S [] = ⟨#[]⟩:=rfl
     rw [hz] at ca he
     clear HG hF HTE HTK hw HL HX HE
     have hb2:=(Below.refl wr.heap.size wr).alloc (Nat.le_refl _) (.cells #[.string (S x.1),.int .i64 x.2.1,.string (S x.2.2)] 78)
     have HB2:=Lib.hid (HBW.out.trans (hb2.mono HBW.out.size))
     have HO2:=Lib.hid (Own.owns_below HOWN.out hb2)
     clear hb2 HBW HOWN
     go_wp2_with fail
     generalize wr.alloc (.cells #[.string (S x.1),.int .i64 x.2.1,.string (S x.2.2)] 78) = W at *
     refine (ca _ (HV.out.on HB2.out)).mono ?_
     rintro e w1 ⟨rfl,k1⟩
     have hb1:=HB2.out.trans (k1.mono HB2.out.size)
     go_wp2_with fail
     go_ret
     exact ⟨rfl,hb1⟩
    | cons c0 t0 =>
     rw [hw] at ca
     have he:(S (c0 :: t0)).toList.isEmpty = false:=isEmpty_S (c0 :: t0)
     have hE2:∀ j,j < k + 1 → wAt (l.getD j nA) ≠ []:=fun j hj=>by
      by_cases e:j = k
      ·rw [e,HX.out,hw]; simp
      ·exact HE.out j (by omega)
     have hT2:tcells ((l.take (k + 1)).map wAt) = tcells ((l.take k).map wAt) ++ [.string (S (c0 :: t0))]:=by
      rw [HTK.out,List.map_append,List.map_singleton,hw,tcells_app]
     have HE2:=Lib.hid hE2
     have HT2:=Lib.hid hT2
     have hk70:k + 1 ≤ 70000:=by omega
     clear HTE HTK hw HL HX HE hE2 hT2
     generalize S (c0 :: t0) = y at *
     have hb2:=(Below.refl wr.heap.size wr).alloc (Nat.le_refl _) (.cells #[.string (S x.1),.int .i64 x.2.1,.string (S x.2.2)] 78)
     have HB2:=Lib.hid (HBW.out.trans (hb2.mono HBW.out.size))
     have HO2:=Lib.hid (Own.owns_below HOWN.out hb2)
     clear hb2 HBW HOWN
     go_wp2_with fail
     generalize wr.alloc (.cells #[.string (S x.1),.int .i64 x.2.1,.string (S x.2.2)] 78) = W at *
     refine (ca _ (HV.out.on HB2.out)).mono ?_
     rintro e w1 ⟨rfl,k1⟩
     have hb3:=(Below.refl w1.heap.size w1).alloc (Nat.le_refl _) (.cells #[.string y] 9)
     have hc3:=(Blk.Is.new w1 9 #[.string y]).at (i:=0) rfl
     obtain ⟨W3,hW3⟩:∃ W3,w1.alloc (.cells #[.string y] 9) = W3:=⟨_,rfl⟩
     rw [hW3] at hb3 hc3
     have HW3:=Lib.hid hW3
     have HC3:=Lib.hid hc3
     have HO3:=Lib.hid (Own.owns_below (Own.owns_below HO2.out k1) hb3)
     have HB3:=Lib.hid ((HB2.out.trans (k1.mono HB2.out.size)).trans (hb3.mono (HB2.out.trans (k1.mono HB2.out.size)).size))
     have HSZ:=Lib.hid HB3.out.size
     clear hW3 hc3 hb3 k1 HB2 HO2 ca
     go_wp2_with (at_builtin; rw [HW3.out]; refine append_el Tryz.underlying41 infoText rfl (by decide) rfl (.tmp 28) (.tmp 30) rfl w.heap.size (.slice pa k cp) k (tcells ((l.take k).map wAt)) rfl HO3.out w1.heap.size 1 rfl [.string y] rfl (one_cell HC3.out) (fun u hu=>by simp only [List.mem_singleton] at hu; rw [hu]; rfl) hk70 HSZ.out ?_; intro v' w4 h4 h5; have hb4:=Own.below_grown HB3.out HO3.out h5 HSZ.out; obtain ⟨a4,c4,rfl,_⟩:=own_shape h4; rw [← HT2.out] at h4; have H4:=Lib.hid h4; have HB4:=Lib.hid hb4; clear h4 h5 hb4 HW3 HC3 HO3 HB3)
     go_roundg g'
     case measure=>omega
     case rel=>exact ⟨k + 1,a4,c4,rfl,by go_num,H4.out,HB4.out,HE2.out,by omega,by omega⟩
   ·have hge:¬ (k:Int) < (n:Int):=by omega
    obtain rfl:k = n:=by omega
    have hfull:(l.any fun x=>(wAt x).isEmpty) = false:=any_full (z:=nA) fun j hj=>HE.out j (by rw [← HN.out]; exact hj)
    have hG:G = Lib.join (l.map wAt) sep:=by rw [← HG.out,if_neg (by rw [hfull]; simp)]
    have hps:(l.take k).map wAt = l.map wAt:=by rw [List.take_of_length_le (by rw [HN.out]; exact Nat.le_refl _)]
    rw [hps] at hown
    have hlen:(l.map wAt).length = k:=by rw [List.length_map]; exact HN.out
    have hjl:(Lib.join (l.map wAt) sep).length ≤ 140737488355328:=by
     have h1:=join_len sep 78 (l.map wAt) fun x hx=>by
      obtain ⟨a,_,rfl⟩:=List.mem_map.1 hx
      exact wAt_len a
     have h2:(l.map wAt).length * (78 + sep.length) ≤ 12 * 81:=Nat.mul_le_mul (by rw [hlen]; omega) (by omega)
     omega
    have cj:=join_any sep w.heap.size (.slice pa k cp) (l.map wAt) wr (by rw [hlen]; exact hown) (by rw [hlen]; omega) hjl
    rw [← hG] at cj
    clear HG hfull hps hlen hjl hown HE HL hG
    have HBW:=Lib.hid hbw
    clear hbw
    go_wp2_with fail
    refine cj.mono ?_
    rintro e w1 ⟨rfl,k1⟩
    have hb1:=HBW.out.trans (k1.mono HBW.out.size)
    go_wp2_with fail
    go_ret
    exact ⟨rfl,hb1⟩
end Rl
end Go.Proofs.YthmpepnikmdjpaaGreatDoor
namespace Go.Proofs.YthmpepnikmdjpaaGreatDoor
open Go.RowKit
set_option linter.unusedSimpArgs false
set_option linter.unusedVariables false
namespace Rl
open Ver (Bs li li_len li_drop S S_self S_of S_size S_li below_drewN empty_is empty_no MaxLen Signs)
theorem LimA.of {l:List (List At)} (h:LimC l) {k:Nat} (hk:k < l.length):LimA (l.getD k []):=h _ (mem_getD hk)
theorem writeClause_any (v:Value) (c:List At) (w:World) (h:Ats w v c) (hL:LimA c) (hv:Vars w) :
  Calls Tryz.prog 254 #[v] w fun e w'=>e = .returned (.string (S (wCl c))) ∧ Below w.heap.size w w':=by
 have ca:=writeA_any v c 6 [32,124,32] w h hL hv (by omega) (by decide)
 rw [show S [32,124,32] = ⟨#[32,124,32]⟩ from rfl,show wrt 6 [32,124,32] wAt c = wCl c from rfl] at ca
 obtain ⟨sa,cap,rfl⟩:=h.shape
 generalize c.length = n at *
 clear h hL hv
 generalize S (wCl c) = y at *
 go_enter Tryz.func254,Tryz.ntmps254
 go_wp2_with fail
 refine ca.mono ?_
 rintro e w1 ⟨rfl,k1⟩
 go_wp2_with fail
 go_ret
 exact ⟨rfl,k1⟩
set_option maxRecDepth 100000 in
set_option maxHeartbeats 4000000 in
theorem writeC_any (v:Value) (l:List (List At)) (most:Nat) (sep:Bs) (w:World) (h:Clss w v l) (hL:LimC l) (hv:Vars w) (hm:most ≤ 12) (hsep:sep.length ≤ 3) :
  Calls Tryz.prog 253 #[v,.int .i64 most,.string (S sep),.func (.func 254) #[] #[]] w fun e w'=>e = .returned (.string (S (wrt most sep wCl l))) ∧ Below w.heap.size w w':=by
 obtain ⟨sa,cap,rfl⟩:=h.shape
 unfold wrt
 by_cases hmost:most < l.length
 ·rw [if_pos hmost]
  have hm':(most:Int) < (l.length:Int):=by omega
  have hz:S [] = ⟨#[]⟩:=rfl
  rw [hz]
  generalize l.length = n at *
  clear h hL hv
  go_enter Tryz.func253,Tryz.ntmps253
  go_wp2_with fail
  go_ret
  exact ⟨rfl,Below.refl _ _⟩
 ·rw [if_neg hmost]
  have hm':¬ (most:Int) < (l.length:Int):=by omega
  obtain ⟨G,hG⟩:∃ G,(if (l.any fun x=>(wCl x).isEmpty) = true then [] else Lib.join (l.map wCl) sep) = G:=⟨_,rfl⟩
  have HG:=Lib.hid hG
  rw [hG]
  have H:=Lib.hid h
  have HL:=Lib.hid hL
  have HV:=Lib.hid hv
  clear hG h hL hv
  obtain ⟨n,hn⟩:∃ n,l.length = n:=⟨_,rfl⟩
  have HN:=Lib.hid hn
  rw [hn] at hmost hm' ⊢
  clear hn
  go_enter Tryz.func253,Tryz.ntmps253
  go_wp2_with fail
  go_loopg [9,19] n (fun gf s9 s19 wx=>∃ (k:Nat) (pa:Option Addr) (cp:Nat),s9 = .slice pa k cp ∧ s19 = .int .i64 k ∧ wx.ownsRow w.heap.size 9 1 (.slice pa k cp) k (tcells ((l.take k).map wCl)) ∧ Below w.heap.size w wx ∧ Hid (∀ j,j < k → wCl (l.getD j []) ≠ []) ∧ k ≤ n ∧ n ≤ k + gf)
  case atStart=>exact ⟨0,none,0,rfl,rfl,World.ownsRow_nil w _ _ 1,Below.refl _ _,fun j hj=>absurd hj (by omega),by omega,by omega⟩
  case round =>
   obtain ⟨k,pa,cp,rfl,rfl,hown,hbw,HE,hkn,hfu⟩:=hrel
   by_cases hlt:k < n
   ·obtain ⟨g',rfl⟩:∃ g',gk = g' + 1:=⟨gk - 1,by omega⟩
    have hlt':(k:Int) < (n:Int):=by omega
    have hk0:(0:Int) ≤ k:=by omega
    have hkl:k < l.length:=by rw [HN.out]; exact hlt
    obtain ⟨_,a',cap',e1,_,hcells⟩:=H.out.below hbw
    simp only [Value.slice.injEq,true_and] at e1
    obtain ⟨rfl,rfl⟩:=e1
    obtain ⟨kb,off,rfl,hcl2⟩:=hcells (by omega)
    obtain ⟨u,x0,xa⟩:=hcl2 k hkl
    rw [Nat.one_mul] at x0
    have hlim:=LimA.of HL.out hkl
    have htk:=take_one (z:=([]:List At)) hkl
    have hte:=fun h=>any_empty (f:=wCl) (z:=([]:List At)) hkl h
    have HTK:=Lib.hid htk
    have HTE:=Lib.hid hte
    have HOWN:=Lib.hid hown
    have HBW:=Lib.hid hbw
    have ca:=writeClause_any u (l.getD k []) wr xa hlim (HV.out.on hbw)
    obtain ⟨ua,uc,rfl⟩:=xa.shape
    generalize hx:l.getD k [] = x at *
    have HX:=Lib.hid hx
    clear hcl2 hcells hown hbw hlim htk hte hx xa
    generalize x.length = m at *
    cases hw:wCl x with
    | nil =>
     rw [hw] at ca
     have hF:=HTE.out hw
     have hG:G = []:=by rw [← HG.out,if_pos hF]
     subst hG
     have he:(S []).toList.isEmpty = true:=isEmpty_S []
     have hz:S [] = ⟨#[]⟩:=rfl
     rw [hz] at ca he
     clear HG hF HTE HTK hw HL HX HE
     go_wp2_with fail
     refine ca.mono ?_
     rintro e w1 ⟨rfl,k1⟩
     have hb1:=HBW.out.trans (k1.mono HBW.out.size)
     go_wp2_with fail
     go_ret
     exact ⟨rfl,hb1⟩
    | cons c0 t0 =>
     rw [hw] at ca
     have he:(S (c0 :: t0)).toList.isEmpty = false:=isEmpty_S (c0 :: t0)
     have hE2:∀ j,j < k + 1 → wCl (l.getD j []) ≠ []:=fun j hj=>by
      by_cases e:j = k
      ·rw [e,HX.out,hw]; simp
      ·exact HE.out j (by omega)
     have hT2:tcells ((l.take (k + 1)).map wCl) = tcells ((l.take k).map wCl) ++ [.string (S (c0 :: t0))]:=by
      rw [HTK.out,List.map_append,List.map_singleton,hw,tcells_app]
     have HE2:=Lib.hid hE2
     have HT2:=Lib.hid hT2
     have hk70:k + 1 ≤ 70000:=by omega
     clear HTE HTK hw HL HX HE hE2 hT2
     generalize S (c0 :: t0) = y at *
     go_wp2_with fail
     refine ca.mono ?_
     rintro e w1 ⟨rfl,k1⟩
     have hb3:=(Below.refl w1.heap.size w1).alloc (Nat.le_refl _) (.cells #[.string y] 9)
     have hc3:=(Blk.Is.new w1 9 #[.string y]).at (i:=0) rfl
     obtain ⟨W3,hW3⟩:∃ W3,w1.alloc (.cells #[.string y] 9) = W3:=⟨_,rfl⟩
     rw [hW3] at hb3 hc3
     have HW3:=Lib.hid hW3
     have HC3:=Lib.hid hc3
     have HO3:=Lib.hid (Own.owns_below (Own.owns_below HOWN.out k1) hb3)
     have HB3:=Lib.hid ((HBW.out.trans (k1.mono HBW.out.size)).trans (hb3.mono (HBW.out.trans (k1.mono HBW.out.size)).size))
     have HSZ:=Lib.hid HB3.out.size
     clear hW3 hc3 hb3 k1 HBW HOWN ca
     go_wp2_with (at_builtin; rw [HW3.out]; refine append_el Tryz.underlying41 infoText rfl (by decide) rfl (.tmp 28) (.tmp 30) rfl w.heap.size (.slice pa k cp) k (tcells ((l.take k).map wCl)) rfl HO3.out w1.heap.size 1 rfl [.string y] rfl (one_cell HC3.out) (fun u hu=>by simp only [List.mem_singleton] at hu; rw [hu]; rfl) hk70 HSZ.out ?_; intro v' w4 h4 h5; have hb4:=Own.below_grown HB3.out HO3.out h5 HSZ.out; obtain ⟨a4,c4,rfl,_⟩:=own_shape h4; rw [← HT2.out] at h4; have H4:=Lib.hid h4; have HB4:=Lib.hid hb4; clear h4 h5 hb4 HW3 HC3 HO3 HB3)
     go_roundg g'
     case measure=>omega
     case rel=>exact ⟨k + 1,a4,c4,rfl,by go_num,H4.out,HB4.out,HE2.out,by omega,by omega⟩
   ·have hge:¬ (k:Int) < (n:Int):=by omega
    obtain rfl:k = n:=by omega
    have hfull:(l.any fun x=>(wCl x).isEmpty) = false:=any_full (z:=([]:List At)) fun j hj=>HE.out j (by rw [← HN.out]; exact hj)
    have hG:G = Lib.join (l.map wCl) sep:=by rw [← HG.out,if_neg (by rw [hfull]; simp)]
    have hps:(l.take k).map wCl = l.map wCl:=by rw [List.take_of_length_le (by rw [HN.out]; exact Nat.le_refl _)]
    rw [hps] at hown
    have hlen:(l.map wCl).length = k:=by rw [List.length_map]; exact HN.out
    have hjl:(Lib.join (l.map wCl) sep).length ≤ 140737488355328:=by
     have h1:=join_len sep 600 (l.map wCl) fun x hx=>by
      obtain ⟨a,_,rfl⟩:=List.mem_map.1 hx
      exact wCl_len a
     have h2:(l.map wCl).length * (600 + sep.length) ≤ 12 * 603:=Nat.mul_le_mul (by rw [hlen]; omega) (by omega)
     omega
    have cj:=join_any sep w.heap.size (.slice pa k cp) (l.map wCl) wr (by rw [hlen]; exact hown) (by rw [hlen]; omega) hjl
    rw [← hG] at cj
    clear HG hfull hps hlen hjl hown HE HL hG
    have HBW:=Lib.hid hbw
    clear hbw
    go_wp2_with fail
    refine cj.mono ?_
    rintro e w1 ⟨rfl,k1⟩
    have hb1:=HBW.out.trans (k1.mono HBW.out.size)
    go_wp2_with fail
    go_ret
    exact ⟨rfl,hb1⟩
end Rl
end Go.Proofs.YthmpepnikmdjpaaGreatDoor
namespace Go.Proofs.YthmpepnikmdjpaaGreatDoor
open Go.RowKit
set_option linter.unusedSimpArgs false
set_option linter.unusedVariables false
namespace Rl
open Ver (Bs li li_len li_drop S S_self S_of S_size S_li below_drewN empty_is empty_no MaxLen Signs)
theorem Text_any (v:Value) (l:List (List At)) (w:World) (h:Clss w v l) (hL:LimC l) (hv:Vars w) :
  Calls Tryz.prog 217 #[v] w fun e w'=>e = .returned (.string (S (text l))) ∧ Below w.heap.size w w':=by
 have ca:=writeC_any v l 12 [44,32] w h hL hv (by omega) (by decide)
 rw [show S [44,32] = ⟨#[44,32]⟩ from rfl,show wrt 12 [44,32] wCl l = text l from rfl] at ca
 obtain ⟨sa,cap,rfl⟩:=h.shape
 generalize l.length = n at *
 clear h hL hv
 generalize S (text l) = y at *
 go_enter Tryz.func217,Tryz.ntmps217
 go_wp2_with fail
 refine ca.mono ?_
 rintro e w1 ⟨rfl,k1⟩
 go_wp2_with fail
 go_ret
 exact ⟨rfl,k1⟩
end Rl
end Go.Proofs.YthmpepnikmdjpaaGreatDoor
namespace Go.Proofs.YthmpepnikmdjpaaGreatDoor
open Go.RowKit
set_option linter.unusedSimpArgs false
set_option linter.unusedVariables false
namespace Rl
open Ver (Bs li li_len li_drop S S_self S_of S_size S_li below_drewN empty_is empty_no MaxLen Signs)
def awB:ByteArray:=⟨#[97,97,32,40,62,61,32,49,41,32,124,32,98,98,44,32,99,99,40,60,60,50,41]⟩
def awL:List (List At):=[[([97,97],4,[49]),([98,98],0,[])],[([99,99],1,[50])]]
theorem aw_parse:whole rdC (li awB) = .ok awL:=by
 have h:(match whole rdC (li awB) with | .ok l=>decide (l = awL) | .error _=>false) = true:=by decide +kernel
 cases hq:whole rdC (li awB) with
 | error e=>rw [hq] at h; cases h
 | ok l=>rw [hq] at h; rw [of_decide_eq_true h]
theorem aw_text:text awL = [97,97,32,40,62,61,32,49,41,32,124,32,98,98,44,32,99,99,32,40,60,60,32,50,41]:=by decide +kernel
theorem aw_lim:LimC awL:=by
 intro c hc a ha
 have:∀ c ∈ awL,∀ a ∈ c,a.1.length ≤ 140737488351232 ∧ a.2.2.length ≤ 140737488351232:=by decide
 exact this c hc a ha
end Rl
end Go.Proofs.YthmpepnikmdjpaaGreatDoor
namespace Go.Proofs.YthmpepnikmdjpaaGreatDoor
open Go.RowKit
set_option linter.unusedSimpArgs false
set_option linter.unusedVariables false
namespace Va
open Ver (Bs li li_len S S_self S_size S_li)
open Rl (At Pv Ats Pvs Clss Cls Vars LimA LimP LimC text atoms provs pvA)
def wrB (s:ByteArray) (n:Nat):Bool:=!(s.toList == []) || decide (n = 0)
def wrT:Vl → ByteArray
 | .none=>⟨#[]⟩
 | .text s=>s
 | .count n=>⟨(Lib.itoa n).toArray⟩
 | .yes b=>if b then yesT else noT
 | .clauses l=>S (text l)
 | .atoms l=>S (atoms l)
 | .provs l=>S (provs l)
def wrK:Vl → Bool
 | .none=>false
 | .clauses l=>wrB (S (text l)) l.length
 | .atoms l=>wrB (S (atoms l)) l.length
 | .provs l=>wrB (S (provs l)) l.length
 | _=>true
def Vl.Lim (x:Vl):Prop:=LimC x.cls ∧ LimA x.ats ∧ LimP x.pvs ∧ (Lit.int .i64 x.cnt).wf = true
def Pow (w : World) : Prop := Lib.TabIs Tryz.prog w "internal/strconv.uint64pow10" .u64 Lib.pow10Tab
theorem Pow.on {w w':World} (h:Pow w) (hb:Below w.heap.size w w'):Pow w':=Lib.tabBelow_of_tabIs h w' hb
end Va
end Go.Proofs.YthmpepnikmdjpaaGreatDoor
namespace Go.Proofs.YthmpepnikmdjpaaGreatDoor
open Go.RowKit
set_option linter.unusedSimpArgs false
set_option linter.unusedVariables false
namespace Va
open Ver (Bs li li_len S S_self S_size S_li)
open Rl (At Pv Ats Pvs Clss Cls Vars LimA LimP LimC text atoms provs pvA wrt wCl wAt)
end Va
end Go.Proofs.YthmpepnikmdjpaaGreatDoor
namespace Go.Proofs.YthmpepnikmdjpaaGreatDoor
set_option linter.unusedSimpArgs false
set_option linter.unusedVariables false
namespace Txt
def W (c:UInt8):Bool:=wht c.toNat
def White (x:List UInt8):Prop:=∀ c ∈ x,W c = true
def go (cur:List UInt8):List UInt8 → List (List UInt8)
 | []=>if cur = [] then [] else [cur]
 | c :: l=>if W c = true then (if cur = [] then go [] l else cur :: go [] l) else go (cur ++ [c]) l
def wordsL (l:List UInt8):List (List UInt8):=go [] l
def close (cur:List UInt8):List (List UInt8):=if cur = [] then [] else [cur]
def join:List (List UInt8) → List UInt8
 | []=>[]
 | [x]=>x
 | x :: y :: r=>x ++ 32 :: join (y :: r)
def trimLeft:List UInt8 → List UInt8
 | []=>[]
 | c :: l=>if W c = true then trimLeft l else c :: l
def trimRight (l:List UInt8):List UInt8:=(trimLeft l.reverse).reverse
def trimL (l:List UInt8):List UInt8:=trimRight (trimLeft l)
theorem trimLeft_eq (l:List UInt8):∃ x,White x ∧ l = x ++ trimLeft l ∧ (trimLeft l = [] ∨ ∃ c r,trimLeft l = c :: r ∧ W c = false):=by
 induction l with
 | nil=>exact ⟨[],(fun _ h=>by cases h),rfl,.inl rfl⟩
 | cons c l ih =>
  unfold trimLeft
  by_cases hw:W c = true
  ·rw [if_pos hw]
   obtain ⟨x,h1,h2,h3⟩:=ih
   refine ⟨c :: x,fun d hd=>?_,by rw [List.cons_append,← h2],h3⟩
   rcases List.mem_cons.1 hd with rfl | hd
   ·exact hw
   ·exact h1 d hd
  ·rw [if_neg hw]
   rw [Bool.not_eq_true] at hw
   exact ⟨[],(fun _ h=>by cases h),rfl,.inr ⟨c,l,rfl,hw⟩⟩
theorem trimLeft_front {x:List UInt8} (h:White x) (l:List UInt8):trimLeft (x ++ l) = trimLeft l:=by
 induction x with
 | nil=>rfl
 | cons c x ih =>
  rw [List.cons_append]
  unfold trimLeft
  rw [if_pos (h c (.head _)),ih (fun d hd=>h d (.tail _ hd))]
  cases l <;> rfl
theorem trimLeft_keep {c:UInt8} (h:W c = false) (l:List UInt8):trimLeft (c :: l) = c :: l:=by
 unfold trimLeft; rw [h]; rfl
theorem white_rev {x:List UInt8} (h:White x):White x.reverse:=fun d hd=>h d (List.mem_reverse.1 hd)
theorem trimRight_back {x:List UInt8} (h:White x) (l:List UInt8):trimRight (l ++ x) = trimRight l:=by
 unfold trimRight
 rw [List.reverse_append,trimLeft_front (white_rev h)]
theorem trimRight_keep {c:UInt8} (h:W c = false) (l:List UInt8):trimRight (l ++ [c]) = l ++ [c]:=by
 unfold trimRight
 rw [List.reverse_append]
 show (trimLeft (c :: l.reverse)).reverse = _
 rw [trimLeft_keep h]
 simp
theorem trimRight_eq (l:List UInt8):∃ x,White x ∧ l = trimRight l ++ x ∧ (trimRight l = [] ∨ ∃ c r,trimRight l = r ++ [c] ∧ W c = false):=by
 obtain ⟨x,h1,h2,h3⟩:=trimLeft_eq l.reverse
 refine ⟨x.reverse,white_rev h1,?_,?_⟩
 ·unfold trimRight
  rw [← List.reverse_append,← h2,List.reverse_reverse]
 ·rcases h3 with h | ⟨c,r,h,hc⟩
  ·left; unfold trimRight; rw [h]; rfl
  ·right; exact ⟨c,r.reverse,by unfold trimRight; rw [h]; simp,hc⟩
end Txt
end Go.Proofs.YthmpepnikmdjpaaGreatDoor
namespace Go.Proofs.YthmpepnikmdjpaaGreatDoor
open Go.Lib
set_option linter.unusedSimpArgs false
set_option linter.unusedVariables false
namespace Txt
theorem len_list (s:ByteArray):s.data.toList.length = s.size:=by rw [Array.length_toList]; rfl
theorem drop_cons (s:ByteArray) (k:Nat) (h:k < s.size):∃ c,s.data.toList.drop k = c :: s.data.toList.drop (k + 1) ∧ c.toNat = b s k:=by
 have hl:k < s.data.toList.length:=by rw [len_list]; exact h
 refine ⟨s.data.toList[k],List.drop_eq_getElem_cons hl,?_⟩
 unfold b
 rw [dif_pos h]
 rfl
theorem W_b {s:ByteArray} {k:Nat} {c:UInt8} (h:c.toNat = b s k):W c = wht (b s k):=by unfold W; rw [h]
theorem wht_high {r:Nat} (h:128 ≤ r):wht r = false:=by unfold wht; simp; omega
theorem sz_bytes (s:ByteArray) (i:Nat) (h:128 ≤ b s i):∀ j,j < sz s i → 128 ≤ b s (i + j):=by
 intro j hj
 have o:=fun k lo hi (q:on s k lo hi = true)=>(on_iff s k lo hi).1 q
 unfold sz at hj
 simp only at hj
 rw [if_neg (by omega)] at hj
 rcases (by omega:j = 0 ∨ j = 1 ∨ j = 2 ∨ j = 3 ∨ 4 ≤ j) with rfl | rfl | rfl | rfl | hj4
 ·exact h
 all_goals
  split at hj
  ·next q=>first | omega | (have:=(o _ _ _ q.2.2).2.1; omega)
  split at hj
  ·next q=>first | omega | (have q1:=(o _ _ _ q.2.1).2.1; have q2:=(o _ _ _ q.2.2).2.1; omega)
  split at hj
  ·next q=>first | omega | (have q1:=(o _ _ _ q.2.1).2.1; have q2:=(o _ _ _ q.2.2).2.1; omega)
  split at hj
  ·next q=>first | omega | (have q1:=(o _ _ _ q.2.2.2.1).2.1; have q2:=(o _ _ _ q.2.2.2.2).2.1; omega)
  split at hj
  ·next q=>first | omega | (have q1:=(o _ _ _ q.2.1).2.1; have q2:=(o _ _ _ q.2.2.1).2.1; have q3:=(o _ _ _ q.2.2.2).2.1; omega)
  split at hj
  ·next q=>first | omega | (have q1:=(o _ _ _ q.2.1).2.1; have q2:=(o _ _ _ q.2.2.1).2.1; have q3:=(o _ _ _ q.2.2.2).2.1; omega)
  split at hj
  ·next q=>first | omega | (have q1:=(o _ _ _ q.2.2.1).2.1; have q2:=(o _ _ _ q.2.2.2.1).2.1; have q3:=(o _ _ _ q.2.2.2.2).2.1; omega)
  omega
theorem step (s:ByteArray) (k:Nat) (h:k < s.size):(wht (Utf8.decode s k).1 = true ∧ (Utf8.decode s k).2 = 1 ∧ wht (b s k) = true) ∨
  (wht (Utf8.decode s k).1 = false ∧ 1 ≤ (Utf8.decode s k).2 ∧ k + (Utf8.decode s k).2 ≤ s.size ∧ ∀ j,j < (Utf8.decode s k).2 → wht (b s (k + j)) = false):=by
 by_cases hb:b s k < 128
 ·rw [dec_low s k h hb]
  cases hw:wht (b s k)
  ·exact .inr ⟨rfl,by omega,by show k + 1 ≤ s.size; omega,fun j hj=>by
    have:j = 0:=by have:j < 1:=hj
                   omega
    subst this; exact hw⟩
  ·exact .inl ⟨rfl,rfl,rfl⟩
 ·right
  rcases dec_high s k h (by omega) with ⟨h0,hd⟩ | ⟨h1,h2,h3,h4⟩
  ·rw [hd]
   refine ⟨by decide,by omega,by show k + 1 ≤ s.size; omega,fun j hj=>?_⟩
   have:j = 0:=by have:j < 1:=hj
                  omega
   subst this; rw [Nat.add_zero]; exact wht_high (by omega)
  ·rw [h3]
   exact ⟨wht_high h4,by omega,h2,fun j hj=>wht_high (sz_bytes s k (by omega) j hj)⟩
theorem ext_list (s:ByteArray) (i j:Nat) (h:j ≤ s.size):(s.extract i j).data.toList = (s.data.toList.drop i).take (j - i):=by
 simp [ByteArray.data_extract,List.extract_eq_take_drop]
theorem left_from (s:ByteArray):∀ f pos,s.size ≤ pos + f → pos ≤ s.size →
  (idxFuncFrom wht false s f pos = -1 ∧ trimLeft (s.data.toList.drop pos) = []) ∨ ∃ n:Nat,n < s.size ∧ idxFuncFrom wht false s f pos = (n:Int) ∧ trimLeft (s.data.toList.drop pos) = s.data.toList.drop n:=by
 intro f
 induction f with
 | zero =>
  intro pos hf hp
  left
  rw [show pos = s.size by omega,show s.data.toList.drop s.size = [] by rw [← len_list]; exact List.drop_length]
  exact ⟨rfl,rfl⟩
 | succ f ih =>
  intro pos hf hp
  by_cases hlt:pos < s.size
  ·unfold idxFuncFrom
   rw [if_pos hlt]
   obtain ⟨c,hc,hcb⟩:=drop_cons s pos hlt
   rcases step s pos hlt with ⟨h1,h2,h3⟩ | ⟨h1,h2,h3,h4⟩
   ·rw [if_neg (by rw [h1]; simp),h2,hc]
    have e:trimLeft (c :: s.data.toList.drop (pos + 1)) = trimLeft (s.data.toList.drop (pos + 1)):=by
     conv=>lhs; unfold trimLeft
     rw [if_pos (by rw [W_b hcb]; exact h3)]
    rw [e]
    exact ih (pos + 1) (by omega) (by omega)
   ·rw [if_pos h1]
    right
    refine ⟨pos,hlt,rfl,?_⟩
    rw [hc]
    have:=h4 0 (by omega)
    rw [Nat.add_zero] at this
    exact trimLeft_keep (by rw [W_b hcb]; exact this) _
  ·left
   rw [idxFuncFrom_end wht false s _ pos hlt,show pos = s.size by omega,show s.data.toList.drop s.size = [] by rw [← len_list]; exact List.drop_length]
   exact ⟨rfl,rfl⟩
theorem left_list (s:ByteArray):(trimLeftF wht s).data.toList = trimLeft s.data.toList:=by
 have:=left_from s s.size 0 (by omega) (by omega)
 rw [List.drop_zero] at this
 unfold trimLeftF idxFunc
 rcases this with ⟨h1,h2⟩ | ⟨n,h0,h1,h2⟩
 ·rw [if_pos h1,h2]
 ·rw [if_neg (by omega),h1,h2,Int.toNat_natCast,ext_list s n s.size (by omega)]
  exact List.take_of_length_le (by rw [List.length_drop,len_list]; omega)
theorem getD_b (s:ByteArray) (k:Nat) (h:k < s.size):(s.data.toList.getD k 0).toNat = b s k:=by
 rw [getD_get!',b_get s k h]
theorem take_snoc (s:ByteArray) (i:Nat) (h:i < s.size):∃ c,s.data.toList.take (i + 1) = s.data.toList.take i ++ [c] ∧ c.toNat = b s i:=by
 have hl:i < s.data.toList.length:=by rw [len_list]; exact h
 refine ⟨s.data.toList[i],by rw [List.take_succ_eq_append_getElem hl],?_⟩
 unfold b
 rw [dif_pos h]
 rfl
theorem right_from (s:ByteArray):∀ f i,i ≤ f → i ≤ s.size → OpenAt s.data.toList i →
  (lastIdxFuncFrom wht false s f i = -1 ∧ trimRight (s.data.toList.take i) = []) ∨
  ∃ n:Nat,n < s.size ∧ lastIdxFuncFrom wht false s f i = (n:Int) ∧ n + (Utf8.decode s n).2 ≤ s.size ∧ trimRight (s.data.toList.take i) = s.data.toList.take (n + (Utf8.decode s n).2):=by
 intro f
 induction f with
 | zero =>
  intro i hf hp _
  left
  rw [show i = 0 by omega]
  exact ⟨rfl,rfl⟩
 | succ f ih =>
  intro i hf hp ho
  by_cases h0:0 < i
  ·unfold lastIdxFuncFrom
   rw [if_pos h0]
   have hil:i ≤ s.data.toList.length:=by rw [len_list]; exact hp
   have hfw:=fw_width s.data.toList i h0 hil ho
   have hlc:=last_cases s.data.toList i h0 hil
   obtain ⟨m,rfl⟩:∃ m,i = m + 1:=⟨i - 1,by omega⟩
   rw [Nat.add_sub_cancel] at hlc
   have hgb:=getD_b s m (by omega)
   rw [hgb] at hlc
   obtain ⟨c,hc,hcb⟩:=take_snoc s m (by omega)
   have hwid:wht (decodeLastL (s.data.toList.take (m + 1))).1 = wht (b s m) ∧ (wht (b s m) = true → (decodeLastL (s.data.toList.take (m + 1))).2 = 1) ∧ (decodeLastL (s.data.toList.take (m + 1))).2 ≤ m + 1 ∧ 1 ≤ (decodeLastL (s.data.toList.take (m + 1))).2:=by
    have hw:=decodeLastL_width (s.data.toList.take (m + 1)) (by rw [List.length_take]; omega)
    rw [List.length_take] at hw
    refine ⟨?_,?_,by omega,hw.1⟩
    ·rcases hlc with ⟨ha,hd⟩ | ⟨ha,hd⟩ | ⟨ha,st,hst,hd,hsum⟩
     ·rw [hd]
     ·rw [hd,wht_high (show 128 ≤ ((65533,1):Nat × Nat).1 by decide),wht_high ha]
     ·rw [wht_high ha]
      rw [hd]
      have:128 ≤ (decodeL ((s.data.toList.take (m + 1)).drop st)).1:=by
       have hsz:(⟨((s.data.toList.take (m + 1)).drop st).toArray⟩:ByteArray).size = m + 1 - st:=by
        show ((s.data.toList.take (m + 1)).drop st).toArray.size = _
        rw [List.size_toArray,List.length_drop,List.length_take]; omega
       generalize hq:(⟨((s.data.toList.take (m + 1)).drop st).toArray⟩:ByteArray) = q at hsz
       have hdq:decodeL ((s.data.toList.take (m + 1)).drop st) = Utf8.decode q 0:=by unfold decodeL; rw [hq]
       rw [hdq] at hsum ⊢
       by_cases hlow:b q 0 < 128
       ·exfalso
        rw [dec_low q 0 (by omega) hlow] at hsum
        have hsm:st = m:=by have:st + 1 = m + 1:=hsum
                            omega
        have e:b q 0 = b s m:=by
         have:=b_get q 0 (by omega)
         rw [← this,← getD_get!',← hq]
         show (((s.data.toList.take (m + 1)).drop st).toArray.toList.getD 0 0).toNat = _
         rw [List.toList_toArray,getD_dropU,Nat.add_zero,hsm,getD_takeU _ _ _ (by omega)]; exact hgb
        omega
       ·rcases dec_high q 0 (by omega) (by omega) with ⟨_,h⟩ | ⟨_,_,_,h⟩
        ·rw [h]; decide
        ·exact h
      exact wht_high this
    ·intro hw1
     rcases hlc with ⟨ha,hd⟩ | ⟨ha,hd⟩ | ⟨ha,st,hst,hd,hsum⟩
     ·rw [hd]
     ·rw [hd]
     ·rw [wht_high ha] at hw1; cases hw1
   obtain ⟨hw1,hw2,hw3,hw4⟩:=hwid
   rw [hw1]
   cases hwb:wht (b s m)
   ·rw [if_pos rfl]
    right
    rw [decodeL_drop] at hfw
    refine ⟨m + 1 - (decodeLastL (s.data.toList.take (m + 1))).2,by omega,rfl,by rw [hfw]; omega,?_⟩
    rw [hfw,show m + 1 - (decodeLastL (s.data.toList.take (m + 1))).2 + (decodeLastL (s.data.toList.take (m + 1))).2 = m + 1 by omega,hc]
    exact trimRight_keep (by rw [W_b hcb]; exact hwb) _
   ·rw [if_neg (by simp),hw2 hwb,Nat.add_sub_cancel]
    have hopen:OpenAt s.data.toList m:=.inr (by
     rw [hgb]
     unfold wht at hwb
     simp at hwb
     omega)
    have e:trimRight (s.data.toList.take (m + 1)) = trimRight (s.data.toList.take m):=by
     rw [hc]
     exact trimRight_back (fun d hd=>by rw [List.mem_singleton.1 hd,W_b hcb]; exact hwb) _
    rw [e]
    exact ih m (by omega) (by omega) hopen
  ·left
   rw [show i = 0 by omega]
   exact ⟨lastIdxFuncFrom_zero wht false s _,rfl⟩
theorem right_list (s:ByteArray):(trimRightF wht s).data.toList = trimRight s.data.toList:=by
 have:=right_from s s.size s.size (by omega) (by omega) (.inl (len_list s).symm)
 rw [List.take_of_length_le (by rw [len_list]; omega)] at this
 unfold trimRightF rightEndF lastIdxFunc
 rcases this with ⟨h1,h2⟩ | ⟨n,h0,h1,hle,h2⟩
 ·rw [if_neg (by omega),h2,ext_list s 0 0 (by omega)]
  rfl
 ·rw [if_pos (by omega),h1,Int.toNat_natCast,h2]
  have hd:decodeGoB (s.extract n s.size) = Utf8.decode s n:=decode_drop s n h0
  rw [hd,ext_list s 0 _ hle]
  rfl
theorem trim_list (s:ByteArray):(trimF wht s).data.toList = trimL s.data.toList:=by
 unfold trimF trimL
 rw [right_list,left_list]
end Txt
end Go.Proofs.YthmpepnikmdjpaaGreatDoor

/-
Why a field, why stanzas may not be printed. Why stanzas may not be printed. The printer: what it holds, one more line, one more field. The printer: one more field.
-/
import Derived.Test.YthmpepnikmdjpaaGreatDoorBStzLine
import Derived.StillTailTactics
import Derived.Test.YthmpepnikmdjpaaGreatDoorBStzField
import Derived.Test.YthmpepnikmdjpaaGreatDoorBRow
namespace Go.Proofs.YthmpepnikmdjpaaGreatDoor
open Go.RowKit
set_option linter.unusedSimpArgs false
set_option linter.unusedVariables false
namespace Stz
def Szd (f:Fld):Prop:=f.1.length ≤ 140737488351232 ∧ ∀ x ∈ f.2,x.length ≤ 140737488351232
theorem Flds.take {w:World} {a:Option Addr} {n cap:Nat} {fs:List Fld} (h:Flds w (.slice a n cap) fs) (i:Nat) (hi:i ≤ fs.length):Flds w (.slice a i cap) (fs.take i):=by
 obtain ⟨h0,a',cap',e,h1,h2⟩:=h
 simp only [Value.slice.injEq] at e
 obtain ⟨rfl,rfl,rfl⟩:=e
 have hl:(fs.take i).length = i:=by rw [List.length_take]; omega
 refine ⟨by omega,a,cap,by rw [hl],by omega,fun hp=>?_⟩
 obtain ⟨k,off,e,hat⟩:=h2 (by omega)
 refine ⟨k,off,e,fun j hj=>?_⟩
 have:=hat j (by omega)
 rw [hl] at hj
 rwa [show (fs.take i).getD j ([],[]) = fs.getD j ([],[]) by simp [List.getD,hj]]
theorem lines_eq (f:Fld):fieldLines f = (List.range f.2.length).map (lineAt f):=by
 obtain ⟨nm,ls⟩:=f
 cases ls with
 | nil=>rfl
 | cons x r =>
  apply List.ext_getElem
  ·simp [fieldLines]
  ·intro i h1 h2
   cases i with
   | zero=>simp [fieldLines,lineAt]
   | succ i=>simp [fieldLines,lineAt] at h1 ⊢; rw [List.getElem?_eq_getElem (by simpa using h1)]; rfl
theorem lines_len (f:Fld):(fieldLines f).length = f.2.length:=by rw [lines_eq]; simp
theorem lines_at (f:Fld) {i:Nat} (hi:i < f.2.length):(fieldLines f).getD i [] = lineAt f i:=by rw [lines_eq]; simp [List.getD,hi]
theorem long_no {f:Fld} (h:∀ i,i < f.2.length → ¬ 1000 < (lineAt f i).length):(fieldLines f).any (fun x=>decide (1000 < x.length)) = false:=by
 rw [List.any_eq_false]
 intro x hx
 rw [lines_eq] at hx
 obtain ⟨i,hi,rfl⟩:=List.mem_map.1 hx
 have:=h i (by simpa using hi)
 simpa using this
theorem long_yes {f:Fld} {i:Nat} (hi:i < f.2.length) (h:1000 < (lineAt f i).length):(fieldLines f).any (fun x=>decide (1000 < x.length)) = true:=by
 rw [List.any_eq_true]
 refine ⟨lineAt f i,?_,by simpa using h⟩
 rw [lines_eq]
 exact List.mem_map.2 ⟨i,by simpa using hi,rfl⟩
set_option maxRecDepth 100000 in
set_option maxHeartbeats 4000000 in
theorem checkField_any (a:Option Addr) (n cap:Nat) (fs:List Fld) (i:Nat) (w:World) (h:Flds w (.slice a n cap) fs) (hi:i < fs.length) (hs:∀ f ∈ fs,Szd f) (hT:Lib.Utf8Tabs 3 4 w) :
  Calls Tryz.prog 220 #[.slice a n cap,.int .i64 i] w fun e w'=>e = .returned (.int .i64 (fieldErr (fs.take i) (fs.getD i ([],[])))) ∧ Below w.heap.size w w':=by
 have hF:=h
 obtain ⟨hmx,a',cap',e,hcap,hread⟩:=h
 simp only [Value.slice.injEq] at e
 obtain ⟨rfl,rfl,rfl⟩:=e
 obtain ⟨g,off,rfl,hat⟩:=hread (by omega)
 obtain ⟨c0,u,c1,hu⟩:=hat i hi
 obtain ⟨f,hf⟩:∃ f,fs.getD i ([],[]) = f:=⟨_,rfl⟩
 have hfm:f ∈ fs:=by rw [← hf]; simp [List.getD,List.getElem?_eq_getElem hi]
 have hsf:=hs f hfm
 rw [hf] at c0 hu ⊢
 obtain ⟨nm,ls⟩:=f
 obtain ⟨hN62,la,lc,rfl,_,_⟩:=id hu
 obtain ⟨N,hN⟩:∃ N,ls.length = N:=⟨_,rfl⟩
 rw [List.length_map,hN] at hN62
 rw [Nat.mul_comm 2 i] at c0 c1
 rw [List.length_map,hN] at c1
 rw [List.length_map,hN] at hu
 obtain ⟨G,hG⟩:∃ G,fieldErr (fs.take i) (nm,ls) = G:=⟨_,rfl⟩
 have HG:=Lib.hid hG
 rw [hG]
 have HN:=Lib.hid hN
 have HF:=Lib.hid hF
 have HS:=Lib.hid hs
 have HSF:=Lib.hid hsf
 have HTT:=Lib.hid hT
 have htl:=Lib.hid (Txt.tabs_lt hT)
 have HI:=Lib.hid hi
 have i0:(0:Int) ≤ i:=by omega
 have i1:(i:Int) < fs.length:=by omega
 have i2:(i:Int) ≤ cap:=by omega
 obtain ⟨W,hW⟩:∃ W,w.alloc (.cells #[.string (S nm),.slice la N lc] 43) = W:=⟨_,rfl⟩
 have hbW:Below w.heap.size w W:=by rw [← hW]; exact (Below.refl _ _).alloc (Nat.le_refl _) _
 have HIW:=Lib.hid (show Blk.Is W w.heap.size 43 #[.string (S nm),.slice la N lc] by rw [← hW]; exact Blk.Is.new w _ _)
 have HU:=Lib.hid (hu.below hbW)
 have HFW:=Lib.hid (hF.below hbW)
 have HB:=Lib.hid hbW
 have hsW:w.heap.size < W.heap.size:=by rw [← hW]; simp
 have hn0:nm.length ≤ 140737488351232:=hsf.1
 have z0:W.cell? ⟨w.heap.size,0,none⟩ = some (.string (S nm)):=HIW.out.at rfl
 have z1:W.cell? ⟨w.heap.size,1,none⟩ = some (.slice la N lc):=HIW.out.at rfl
 have ci:=isName_any (S nm) W (by rw [S_size]; omega)
 rw [S_data] at ci
 clear hread hat hf hfm hF hu hs hsf hT hG hN hi hbW
 go_enter Tryz.func220,Tryz.ntmps220
 go_wp2_with fail
 refine ci.mono ?_
 rintro e w1 ⟨rfl,b1⟩
 have z0':w1.cell? ⟨w.heap.size,0,none⟩ = some (.string (S nm)):=(show Blk.Is w1 w.heap.size 43 #[.string (S nm),.slice la N lc] from (b1.block _ hsW).trans HIW.out).at rfl
 have z1':w1.cell? ⟨w.heap.size,1,none⟩ = some (.slice la N lc):=(show Blk.Is w1 w.heap.size 43 #[.string (S nm),.slice la N lc] from (b1.block _ hsW).trans HIW.out).at rfl
 have HU1:=Lib.hid (HU.out.below b1)
 have HFW1:=Lib.hid (HFW.out.below b1)
 have HB1:=Lib.hid (HB.out.trans (b1.mono HB.out.size))
 have HI1:=Lib.hid (show Blk.Is w1 w.heap.size 43 #[.string (S nm),.slice la N lc] from (b1.block _ hsW).trans HIW.out)
 have hs1:w.heap.size < w1.heap.size:=Nat.lt_of_lt_of_le hsW b1.size
 clear ci hW z0 z1 b1 HU HFW HB HIW hsW
 cases hnb:nameB nm with
 | false =>
  have HNB:=Lib.hid hnb
  clear hnb
  go_wp2_with fail
  go_ret
  refine ⟨?_,HB1.out⟩
  rw [← HG.out]
  unfold fieldErr
  rw [if_pos (by simp [HNB.out])]
  rfl
 | true =>
  have HNB:=Lib.hid hnb
  clear hnb
  go_wp2_with fail
  refine (mayLines_any (.slice la N lc) ls w1 HU1.out (fun x hx=>by have:=HSF.out.2 x hx; omega) (Txt.tabs_below HTT.out HB1.out htl.out)).mono ?_
  rintro e w2 ⟨rfl,b2⟩
  have z0:w2.cell? ⟨w.heap.size,0,none⟩ = some (.string (S nm)):=(show Blk.Is w2 w.heap.size 43 #[.string (S nm),.slice la N lc] from (b2.block _ hs1).trans HI1.out).at rfl
  have z1:w2.cell? ⟨w.heap.size,1,none⟩ = some (.slice la N lc):=(show Blk.Is w2 w.heap.size 43 #[.string (S nm),.slice la N lc] from (b2.block _ hs1).trans HI1.out).at rfl
  have HU2:=Lib.hid (HU1.out.below b2)
  have HFW2:=Lib.hid (HFW1.out.below b2)
  have HB2:=Lib.hid (HB1.out.trans (b2.mono HB1.out.size))
  have HI2:=Lib.hid (show Blk.Is w2 w.heap.size 43 #[.string (S nm),.slice la N lc] from (b2.block _ hs1).trans HI1.out)
  have hs2:w.heap.size < w2.heap.size:=Nat.lt_of_lt_of_le hs1 b2.size
  clear z0' z1' b2 HU1 HFW1 HB1 HI1 hs1
  cases htx:textsOK ls with
  | false =>
   have HTX:=Lib.hid htx
   clear htx
   go_wp2_with fail
   go_ret
   refine ⟨?_,HB2.out⟩
   rw [← HG.out]
   unfold fieldErr
   rw [if_pos (by simp [HTX.out])]
   rfl
  | true =>
   have HTX:=Lib.hid htx
   clear htx
   go_wp2_with fail
   go_still_tail 5,(by kernel_rfl)
   change wpList _ _ _ _ _ w2.drew
   have bd:Below w2.heap.size w2 w2.drew:=(Below.refl _ _).drew
   have HFWd:=Lib.hid (HFW2.out.below bd)
   have hud:=HU2.out.below bd
   have hid2:Blk.Is w2.drew w.heap.size 43 #[.string (S nm),.slice la N lc]:=(bd.block _ hs2).trans HI2.out
   have hbd:=HB2.out.trans (bd.mono HB2.out.size)
   have hsd:w.heap.size < w2.drew.heap.size:=hs2
   clear HFW2 HU2 HI2 HB2 hs2 z0 z1 bd
   generalize w2.drew = wd at *
   have HU2:=Lib.hid hud
   have HI2:=Lib.hid hid2
   have HB2:=Lib.hid hbd
   clear hud hid2 hbd
   go_wp2_with fail
   refine (find_any (.slice (some ⟨g,off,none⟩) i cap) (fs.take i) nm wd (HFWd.out.take i (Nat.le_of_lt HI.out)) (fun f hf=>by have:=(HS.out f (List.mem_of_mem_take hf)).1; omega)).mono ?_
   rintro e w3 ⟨r,rfl,hfo,b3⟩
   have hfa:=found_any hfo
   have z0':w3.cell? ⟨w.heap.size,0,none⟩ = some (.string (S nm)):=(show Blk.Is w3 w.heap.size 43 #[.string (S nm),.slice la N lc] from (b3.block _ hsd).trans HI2.out).at rfl
   have z1':w3.cell? ⟨w.heap.size,1,none⟩ = some (.slice la N lc):=(show Blk.Is w3 w.heap.size 43 #[.string (S nm),.slice la N lc] from (b3.block _ hsd).trans HI2.out).at rfl
   have HU3:=Lib.hid (HU2.out.below b3)
   have HB3:=Lib.hid (HB2.out.trans (b3.mono HB2.out.size))
   have HI3:=Lib.hid (show Blk.Is w3 w.heap.size 43 #[.string (S nm),.slice la N lc] from (b3.block _ hsd).trans HI2.out)
   have hs3:w.heap.size < w3.heap.size:=Nat.lt_of_lt_of_le hsd b3.size
   have HFA:=Lib.hid hfa
   clear b3 HU2 HFWd HB2 HI2 hsd hfo hfa
   by_cases hr:0 ≤ r
   ·have hfa:=HFA.out
    rw [decide_eq_true hr] at hfa
    have HFA2:=Lib.hid hfa
    clear hfa HFA
    go_wp2_with fail
    go_ret
    refine ⟨?_,HB3.out⟩
    rw [← HG.out]
    unfold fieldErr
    rw [if_neg (by simp [HNB.out,HTX.out]),if_pos HFA2.out]
    rfl
   ·have hfa:=HFA.out
    rw [decide_eq_false hr] at hfa
    have HFA2:=Lib.hid hfa
    clear hfa HFA
    go_wp2_with fail
    go_loopw [33] (fun i u=>∃ k:Nat,k ≤ N ∧ i = .int .i64 k ∧ Hid (∀ j,j < k → ¬ 1000 < (lineAt (nm,ls) j).length) ∧ Hid (Below w3.heap.size w3 u)) (fun i _=>N - (intOf i).toNat)
    case atStart=>exact ⟨0,by omega,rfl,Lib.hid (fun j hj=>absurd hj (by omega)),Lib.hid (Below.refl _ _)⟩
    case round =>
     obtain ⟨k,hk,rfl,HP,HBK⟩:=hrel
     have y0:wr.cell? ⟨w.heap.size,0,none⟩ = some (.string (S nm)):=(show Blk.Is wr w.heap.size 43 #[.string (S nm),.slice la N lc] from (HBK.out.block _ hs3).trans HI3.out).at rfl
     have y1:wr.cell? ⟨w.heap.size,1,none⟩ = some (.slice la N lc):=(show Blk.Is wr w.heap.size 43 #[.string (S nm),.slice la N lc] from (HBK.out.block _ hs3).trans HI3.out).at rfl
     by_cases hlt:k < N
     ·have hkl:k < ls.length:=by rw [HN.out]; exact hlt
      have hxl:(ls.getD k []).length ≤ 140737488351232:=HSF.out.2 _ (by simp [List.getD,List.getElem?_eq_getElem hkl])
      have k0:(0:Int) ≤ k:=by omega
      have k1:(k:Int) < N:=by omega
      have cl:=lineOf_any nm (.slice la N lc) ls k wr (HU3.out.below HBK.out) hkl hn0 hxl
      have hls:=S_size (lineAt (nm,ls) k)
      have HKL:=Lib.hid hkl
      clear hkl hxl
      go_wp2_with fail
      refine cl.mono ?_
      rintro e w4 ⟨rfl,b4⟩
      have HB4:=Lib.hid (HBK.out.trans (b4.mono HBK.out.size))
      clear cl b4 y0 y1
      by_cases hlong:1000 < (lineAt (nm,ls) k).length
      ·go_wp2_with fail
       go_ret
       refine ⟨?_,HB3.out.trans (HB4.out.mono HB3.out.size)⟩
       rw [← HG.out]
       unfold fieldErr
       rw [if_neg (by simp [HNB.out,HTX.out]),if_neg (by rw [HFA2.out]; simp),if_pos (long_yes (f:=(nm,ls)) HKL.out hlong)]
       rfl
      ·go_wp2_with fail
       refine ⟨⟨k + 1,by omega,by go_num,Lib.hid (fun j hj=>?_),HB4⟩,by simp [intOf]; omega⟩
       rcases Nat.lt_or_ge j k with h | h
       ·exact HP.out j h
       ·obtain rfl:j = k:=by omega
        exact hlong
     ·obtain rfl:k = N:=by omega
      go_wp2_with fail
      go_ret
      refine ⟨?_,HB3.out.trans (HBK.out.mono HB3.out.size)⟩
      rw [← HG.out]
      unfold fieldErr
      rw [if_neg (by simp [HNB.out,HTX.out]),if_neg (by rw [HFA2.out]; simp),if_neg (by rw [long_no (f:=(nm,ls)) (fun j hj=>HP.out j (by rw [← HN.out]; exact hj))]; simp)]
      rfl
end Stz
end Go.Proofs.YthmpepnikmdjpaaGreatDoor
namespace Go.Proofs.YthmpepnikmdjpaaGreatDoor
open Go.RowKit
set_option linter.unusedSimpArgs false
set_option linter.unusedVariables false
namespace Stz
theorem fields_no:∀ (fs ahead:List Fld),(∀ i,i < fs.length → fieldErr (ahead ++ fs.take i) (fs.getD i ([],[])) = 0) → fieldsErr ahead fs = 0
 | [],_,_=>rfl
 | f :: r,ahead,h=>by
  have h0:=h 0 (by simp)
  simp only [List.take_zero,List.append_nil,List.getD_cons_zero] at h0
  unfold fieldsErr
  rw [if_neg (by rw [h0]; simp)]
  refine fields_no r (ahead ++ [f]) fun i hi=>?_
  have:=h (i + 1) (by simp; omega)
  simpa using this
theorem fields_at:∀ (fs ahead:List Fld) (i:Nat),i < fs.length → (∀ j,j < i → fieldErr (ahead ++ fs.take j) (fs.getD j ([],[])) = 0) → fieldErr (ahead ++ fs.take i) (fs.getD i ([],[])) ≠ 0 → fieldsErr ahead fs = fieldErr (ahead ++ fs.take i) (fs.getD i ([],[]))
 | f :: r,ahead,0,_,_,h=>by
  simp only [List.take_zero,List.append_nil,List.getD_cons_zero] at h ⊢
  unfold fieldsErr
  rw [if_pos h]
 | f :: r,ahead,i + 1,hi,hj,h=>by
  have h0:=hj 0 (by omega)
  simp only [List.take_zero,List.append_nil,List.getD_cons_zero] at h0
  unfold fieldsErr
  rw [if_neg (by rw [h0]; simp)]
  have e:ahead ++ (f :: r).take (i + 1) = (ahead ++ [f]) ++ r.take i:=by simp
  rw [e] at h ⊢
  exact fields_at r (ahead ++ [f]) i (by simpa using hi) (fun j hj'=>by have:=hj (j + 1) (by omega); simpa using this) h
theorem each_no:∀ (l:List Sz),(∀ i,i < l.length → stanzaErr (l.getD i (0,[])) = 0) → eachErr l = 0
 | [],_=>rfl
 | s :: r,h=>by
  have h0:=h 0 (by simp)
  simp only [List.getD_cons_zero] at h0
  unfold eachErr
  rw [if_neg (by rw [h0]; simp)]
  refine each_no r fun i hi=>?_
  have:=h (i + 1) (by simp; omega)
  simpa using this
theorem each_at:∀ (l:List Sz) (i:Nat),i < l.length → (∀ j,j < i → stanzaErr (l.getD j (0,[])) = 0) → stanzaErr (l.getD i (0,[])) ≠ 0 → eachErr l = stanzaErr (l.getD i (0,[]))
 | s :: r,0,_,_,h=>by
  simp only [List.getD_cons_zero] at h ⊢
  unfold eachErr
  rw [if_pos h]
 | s :: r,i + 1,hi,hj,h=>by
  have h0:=hj 0 (by omega)
  simp only [List.getD_cons_zero] at h0
  unfold eachErr
  rw [if_neg (by rw [h0]; simp)]
  exact each_at r i (by simpa using hi) (fun j hj'=>by have:=hj (j + 1) (by omega); simpa using this) (by simpa using h)
theorem listErr_at {l:List Sz} (hl:¬ 200 < l.length) {i:Nat} (hi:i < l.length) (hj:∀ j,j < i → stanzaErr (l.getD j (0,[])) = 0) {G:Nat} (h:stanzaErr (l.getD i (0,[])) = G) (hG:G ≠ 0):listErr l = G:=by
 unfold listErr
 rw [if_neg hl,each_at l i hi hj (by rw [h]; exact hG),h]
set_option maxRecDepth 100000 in
set_option maxHeartbeats 4000000 in
theorem check_any (v:Value) (l:List Sz) (w:World) (h:Stzs w v l) (hs:∀ s ∈ l,∀ f ∈ s.2,Szd f) (hT:Lib.Utf8Tabs 3 4 w) :
  Calls Tryz.prog 178 #[v] w fun e w'=>e = .returned (.int .i64 (listErr l)) ∧ Below w.heap.size w w':=by
 obtain ⟨hmx,a,cap,rfl,hcap,hread⟩:=id h
 have HR:=Lib.hid hread
 have HS:=Lib.hid hs
 have HTT:=Lib.hid hT
 have htl:=Lib.hid (Txt.tabs_lt hT)
 obtain ⟨N,hN⟩:∃ N,l.length = N:=⟨_,rfl⟩
 have HN:=Lib.hid hN
 rw [hN] at hcap hmx ⊢
 obtain ⟨G,hG⟩:∃ G,listErr l = G:=⟨_,rfl⟩
 have HG:=Lib.hid hG
 rw [hG]
 clear hread hs hT hN hG h
 go_enter Tryz.func178,Tryz.ntmps178
 by_cases hbig:200 < N
 ·have hbig':(200:Int) < N:=by omega
  go_wp2_with fail
  go_ret
  refine ⟨?_,Below.refl _ _⟩
  rw [← HG.out]
  unfold listErr
  rw [if_pos (by rw [HN.out]; exact hbig)]
  rfl
 ·have hbig':¬ (200:Int) < N:=by omega
  go_wp2_with fail
  go_loopw [12] (fun i u=>∃ k:Nat,k ≤ N ∧ i = .int .i64 k ∧ Hid (∀ j,j < k → stanzaErr (l.getD j (0,[])) = 0) ∧ Hid (Below w.heap.size w u)) (fun i _=>N - (intOf i).toNat)
  case atStart=>exact ⟨0,by omega,rfl,Lib.hid (fun j hj=>absurd hj (by omega)),Lib.hid (Below.refl _ _)⟩
  case round =>
   obtain ⟨k,hk,rfl,HP,HB⟩:=hrel
   by_cases hlt:k < N
   ·have hkl:k < l.length:=by rw [HN.out]; exact hlt
    obtain ⟨g,off,rfl,hat⟩:=HR.out (by omega)
    obtain ⟨x0,u,x1,hF⟩:=hat k hkl
    obtain ⟨s,hs⟩:∃ s,l.getD k (0,[]) = s:=⟨_,rfl⟩
    have hsm:∀ f ∈ s.2,Szd f:=HS.out s (by rw [← hs]; simp [List.getD,List.getElem?_eq_getElem hkl])
    rw [hs] at x0 hF
    rw [← HB.out.cell (Txt.lt_cell x0)] at x0
    rw [← HB.out.cell (Txt.lt_cell x1)] at x1
    have hF1:=hF.below HB.out
    obtain ⟨line,fs⟩:=s
    obtain ⟨F,hFn⟩:∃ F,fs.length = F:=⟨_,rfl⟩
    obtain ⟨hF60,fa,fc,rfl,hfc,_⟩:=id hF1
    have x0':wr.cell? ⟨g,off + k * 2,none⟩ = some (.int .i64 line):=by rw [Nat.mul_comm]; exact x0
    have x1':wr.cell? ⟨g,off + k * 2 + 1,none⟩ = some (.slice fa F fc):=by rw [Nat.mul_comm,← hFn]; exact x1
    have k0:(0:Int) ≤ k:=by omega
    have k1:(k:Int) < N:=by omega
    obtain ⟨W,hW⟩:∃ W,wr.alloc (.cells #[.int .i64 line,.slice fa F fc] 40) = W:=⟨_,rfl⟩
    have hbW:Below wr.heap.size wr W:=by rw [← hW]; exact (Below.refl _ _).alloc (Nat.le_refl _) _
    have hiW:Blk.Is W wr.heap.size 40 #[.int .i64 line,.slice fa F fc]:=by rw [← hW]; exact Blk.Is.new wr _ _
    have z1:W.cell? ⟨wr.heap.size,1,none⟩ = some (.slice fa F fc):=hiW.at rfl
    have HIW:=Lib.hid hiW
    have hsW:wr.heap.size < W.heap.size:=by rw [← hW]; simp
    have hF2:Flds W (.slice fa F fc) fs:=by rw [← hFn]; exact hF1.below hbW
    have HFL:=Lib.hid hF2
    have HBW:=Lib.hid (HB.out.trans (hbW.mono HB.out.size))
    have HSL:=Lib.hid hs
    have HKL:=Lib.hid hkl
    have HSM:=Lib.hid hsm
    rw [hFn] at hF60 hfc
    have HFN:=Lib.hid hFn
    clear hat hF hF1 x0 x1 hs hkl hsm hbW hiW hF2 hFn HB
    by_cases hz:F = 0
    ·have HZ:=Lib.hid hz
     have hb0:((F:Int) == 0) = true:=by subst hz; rfl
     have hz1:¬ (40:Int) < F:=by omega
     clear hz
     go_wp2_with fail
     go_ret
     refine ⟨?_,HBW.out⟩
     rw [← HG.out,listErr_at (by rw [HN.out]; exact hbig) HKL.out HP.out (G:=12) ?_ (by decide)]
     ·rfl
     ·rw [HSL.out]
      unfold stanzaErr
      rw [if_pos (.inl (List.length_eq_zero_iff.1 (by show fs.length = 0; rw [HFN.out]; exact HZ.out)))]
    ·have hb0:((F:Int) == 0) = false:=by
      rw [beq_eq_false_iff_ne]
      omega
     by_cases h40:40 < F
     ·have h40':(40:Int) < F:=by omega
      go_wp2_with fail
      go_ret
      refine ⟨?_,HBW.out⟩
      rw [← HG.out,listErr_at (by rw [HN.out]; exact hbig) HKL.out HP.out (G:=12) ?_ (by decide)]
      ·rfl
      ·rw [HSL.out]
       unfold stanzaErr
       rw [if_pos (.inr (by show 40 < fs.length; rw [HFN.out]; exact h40))]
     ·have h40':¬ (40:Int) < F:=by omega
      have hse:stanzaErr (line,fs) = fieldsErr [] fs:=by
       unfold stanzaErr
       rw [if_neg]
       rintro (h | h)
       ·have:fs = []:=h
        rw [this] at HFN
        exact hz HFN.out.symm
       ·have:40 < fs.length:=h
        rw [HFN.out] at this
        exact h40 this
      have HSE:=Lib.hid hse
      clear hse
      go_wp2_with fail
      obtain ⟨z,hz⟩:∃ z,wr.heap.size = z:=⟨_,rfl⟩
      rw [hz] at z1 HIW hsW ⊢
      clear hW hz z1 k0 k1 x0' x1' hb0
      go_loopw [29] (fun i u=>∃ q:Nat,q ≤ F ∧ i = .int .i64 q ∧ Hid (∀ j,j < q → fieldErr (fs.take j) (fs.getD j ([],[])) = 0) ∧ Hid (Below W.heap.size W u)) (fun i _=>F - (intOf i).toNat)
      case atStart=>exact ⟨0,by omega,rfl,Lib.hid (fun j hj=>absurd hj (by omega)),Lib.hid (Below.refl _ _)⟩
      case round =>
       obtain ⟨q,hq,rfl,HQ,HBQ⟩:=hrel
       have z1:wr.cell? ⟨z,1,none⟩ = some (.slice fa F fc):=(show Blk.Is wr z 40 #[.int .i64 line,.slice fa F fc] from (HBQ.out.block _ hsW).trans HIW.out).at rfl
       by_cases hql:q < F
       ·have hql':(q:Int) < F:=by omega
        have hqf:q < fs.length:=by rw [HFN.out]; exact hql
        have cc:=checkField_any fa F fc fs q wr (HFL.out.below HBQ.out) hqf HSM.out (Txt.tabs_below HTT.out (HBW.out.trans (HBQ.out.mono HBW.out.size)) htl.out)
        obtain ⟨E,hE⟩:∃ E,fieldErr (fs.take q) (fs.getD q ([],[])) = E:=⟨_,rfl⟩
        rw [hE] at cc
        have HE:=Lib.hid hE
        have HQF:=Lib.hid hqf
        clear hE hqf
        go_wp2_with fail
        refine cc.mono ?_
        rintro e w4 ⟨rfl,b4⟩
        have HB4:=Lib.hid (HBQ.out.trans (b4.mono HBQ.out.size))
        clear cc b4 z1
        by_cases hE0:E = 0
        ·have HE0:=Lib.hid hE0
         have hb0:((E:Int) == 0) = true:=by subst hE0; rfl
         clear hE0
         go_wp2_with fail
         refine ⟨⟨q + 1,by omega,by go_num,Lib.hid (fun j hj=>?_),HB4⟩,by simp [intOf]; omega⟩
         rcases Nat.lt_or_ge j q with h | h
         ·exact HQ.out j h
         ·obtain rfl:j = q:=by omega
          rw [HE.out,HE0.out]
        ·have HE0:=Lib.hid hE0
         have hb0:((E:Int) == 0) = false:=by
          rw [beq_eq_false_iff_ne]
          omega
         clear hE0
         go_wp2_with fail
         go_ret
         refine ⟨?_,HBW.out.trans (HB4.out.mono HBW.out.size)⟩
         rw [← HG.out,listErr_at (by rw [HN.out]; exact hbig) HKL.out HP.out (G:=E) ?_ HE0.out]
         ·rfl
         ·rw [HSL.out,HSE.out,fields_at fs [] q HQF.out HQ.out (by rw [List.nil_append,HE.out]; exact HE0.out),List.nil_append,HE.out]
       ·obtain rfl:q = F:=by omega
        go_wp2_with fail
        refine ⟨⟨k + 1,by omega,by go_num,Lib.hid (fun j hj=>?_),Lib.hid (HBW.out.trans (HBQ.out.mono HBW.out.size))⟩,by simp [intOf]; omega⟩
        rcases Nat.lt_or_ge j k with h | h
        ·exact HP.out j h
        ·obtain rfl:j = k:=by omega
         rw [HSL.out,HSE.out]
         exact fields_no fs [] (fun i hi=>HQ.out i (by rw [← HFN.out]; exact hi))
   ·obtain rfl:k = N:=by omega
    go_wp2_with fail
    go_ret
    refine ⟨?_,HB.out⟩
    rw [← HG.out]
    unfold listErr
    rw [if_neg (by rw [HN.out]; exact hbig),each_no l (fun j hj=>HP.out j (by rw [← HN.out]; exact hj))]
    rfl
end Stz
end Go.Proofs.YthmpepnikmdjpaaGreatDoor
namespace Go.Proofs.YthmpepnikmdjpaaGreatDoor
open Go.RowKit
set_option linter.unusedSimpArgs false
set_option linter.unusedVariables false
namespace Stz
def nums (l:Bs):List Int:=l.map fun c=>(c.toNat:Int)
theorem nums_len (l:Bs):(nums l).length = l.length:=by simp [nums]
theorem nums_app (a c:Bs):nums (a ++ c) = nums a ++ nums c:=by simp [nums]
def addL (p:Bs × Bool) (x:Bs):Bs × Bool:=if p.2 || decide (65536 < p.1.length + x.length + 1) then (p.1,true) else (p.1 ++ x ++ [10],false)
theorem mine_ne {w:World} {B k:Nat} {T:TypeId} {v:Value} {zs:List Int} {cs:Array Value} (h:Mine w B v zs) (hk:Blk.Is w k T cs) (hT:5 ≠ T):v.ownBlock ≠ some k:=fun e=>by
 obtain ⟨_,_,cur,h1⟩:=h.block e
 exact hT (h1.inj hk).1
theorem byte_nums (l:Bs):Byte (nums l):=fun z hz=>by
 obtain ⟨c,_,rfl⟩:=List.mem_map.1 hz
 have:=c.toNat_lt
 omega
theorem cells_S (l:Bs):byteCells (S l) = bcells (nums l):=by
 simp [byteCells,bcells,nums,S,List.map_map,Function.comp_def]
theorem append_S {w:World} {ops:Array Oper} {rest:List Oper} {o:Oper} {a:Act} {Q:Exit → Act → World → Prop} (hgd:o.guard = none) (s x:Operand)
  (ho:o.op = .call { callee:=.builtin .append,args:=#[s,x],argTypes:=#[51,9] })
  (base:Nat) (v:Value) (xs:List Int) (hv:a.eval s = v) (hm:Mine w base v xs) (t:Bs) (hx:a.eval x = .string (S t))
  (hlen:xs.length + t.length ≤ 140737488355328) (hbase:base ≤ w.heap.size)
  (h:∀ v' w',Mine w' base v' (xs ++ nums t) → w.grownBy w' v.ownBlock → wpList Tryz.prog ops Q rest (a.put o.dst v') w'):wpList Tryz.prog ops Q (o :: rest) a w:=by
 obtain ⟨i0,hi,hz0,hz1,hz2⟩:=info_parts infoU8
 refine Own.wpList_append_src hgd s x 51 9 ho base 5 i0 _ 1 1 Tryz.underlying51 hi hz0 hz1 hz2 rfl v xs.length _ hv hm.1 _ t.length _ hx (by have:=Src.ofString w Tryz.underlying9 (S t); rwa [S_size] at this) (by simp only [maxLen]; omega) (by omega) hbase fun v' w' h1 h2=>?_
 refine h v' w' ⟨?_,hm.2.append (byte_nums t)⟩ h2
 rw [List.length_append,nums_len]
 simpa [bcells,cells_S] using h1
def PrAt (w:World) (B k:Nat) (p:Bs × Bool):Prop:=∃ v,Blk.Is w k 205 #[v,.bool p.2] ∧ Mine w B v (nums p.1)
theorem PrAt.shape {w:World} {B k:Nat} {p:Bs × Bool} (h:PrAt w B k p):∃ a c,Blk.Is w k 205 #[.slice a p.1.length c,.bool p.2] ∧ Mine w B (.slice a p.1.length c) (nums p.1) ∧ p.1.length ≤ c:=by
 obtain ⟨v,h1,h2⟩:=h
 obtain ⟨n,a,c,rfl,hc,hn,_⟩:=h2.rows
 rw [nums_len] at hn
 subst hn
 exact ⟨a,c,h1,h2,hc⟩
theorem PrAt.chg {w w':World} {B k:Nat} {p:Bs × Bool} {S':Nat → Prop} (h:PrAt w B k p) (hc:Blk.Chg S' w w') (hk:¬ S' k) (hS:∀ b,S' b → w.heap.size ≤ b):PrAt w' B k p:=by
 obtain ⟨v,h1,h2⟩:=h
 exact ⟨v,(hc.block k h1.lt hk).trans h1,h2.chg hc fun b hb hs=>by have:=(h2.block hb).2.1; have:=hS b hs; omega⟩
theorem PrAt.below {w w':World} {B k:Nat} {p:Bs × Bool} (h:PrAt w B k p) (hb:Below w.heap.size w w'):PrAt w' B k p:=h.chg (S':=fun _=>False) (Blk.Chg.ofBelow' hb) (by simp) (by simp)
theorem mine_set {w:World} {B k i:Nat} {T:TypeId} {cs:Array Value} {v u:Value} {zs:List Int} (h:Mine w B v zs) (hk:Blk.Is w k T cs) (hT:5 ≠ T):Mine (w.setCell ⟨k,i,none⟩ u) B v zs :=
 h.chg (S:=fun b=>b = k) ((Blk.Chg.refl _ w).setAt rfl) fun b hb e=>mine_ne h hk hT (by rw [hb,e])
theorem grown_is {w w':World} {B k:Nat} {T:TypeId} {cs:Array Value} {v:Value} {zs:List Int} (h:Mine w B v zs) (hk:Blk.Is w k T cs) (hT:5 ≠ T) (hg:w.grownBy w' v.ownBlock):Blk.Is w' k T cs:=by
 have hc:Blk.Chg (fun b=>v.ownBlock = some b) w w':=(Blk.Chg.refl _ w).grown hg fun b hb _=>hb
 exact (hc.block k hk.lt (mine_ne h hk hT)).trans hk
def Keeps (w w':World) (k:Nat):Prop:=∀ b T cs,Blk.Is w b T cs → 5 ≠ T → b ≠ k → Blk.Is w' b T cs
theorem Keeps.trans {a b c:World} {k:Nat} (h:Keeps a b k) (h':Keeps b c k):Keeps a c k:=fun i T cs hi hT hk=>h' i T cs (h i T cs hi hT hk) hT hk
theorem Keeps.set (w:World) (k i:Nat) (u:Value):Keeps w (w.setCell ⟨k,i,none⟩ u) k:=fun b T cs hi _ hk=>hi.setOther (a:=⟨k,i,none⟩) u hk
theorem Keeps.grown {w w':World} {B k:Nat} {v:Value} {zs:List Int} (h:Mine w B v zs) (hg:w.grownBy w' v.ownBlock):Keeps w w' k:=fun b T cs hi hT _=>grown_is h hi hT hg
theorem Keeps.below {w w':World} {k:Nat} (h:Below w.heap.size w w'):Keeps w w' k:=fun b T cs hi _ _=>(h.block b hi.lt).trans hi
set_option maxRecDepth 100000 in
set_option maxHeartbeats 4000000 in
theorem pline_any (B k:Nat) (p:Bs × Bool) (x:Bs) (w:World) (h:PrAt w B k p) (hB:B ≤ k) (hp:p.1.length ≤ 65536) (hx:x.length ≤ 1000000) :
  Calls Tryz.prog 179 #[.pointer (some ⟨k,0,none⟩),.string (S x)] w fun e w'=>e = .returned (.tuple #[]) ∧ PrAt w' B k (addL p x) ∧ Below B w w' ∧ Keeps w w' k:=by
 obtain ⟨a,c,h1,h2,hc⟩:=h.shape
 obtain ⟨txt,long⟩:=p
 obtain ⟨n,hn⟩:∃ n,txt.length = n:=⟨_,rfl⟩
 rw [show ((txt,long):Bs × Bool).1.length = n from hn] at h1 h2 hc hp
 have HN:=Lib.hid hn
 have H1:=Lib.hid h1
 have H2:=Lib.hid h2
 have c0:w.cell? ⟨k,0,none⟩ = some (.slice a n c):=h1.at rfl
 have c1:w.cell? ⟨k,1,none⟩ = some (.bool long):=h1.at rfl
 have f0:=h1.free 0
 have f1:=h1.free 1
 have hkw:=h1.lt
 have hsx:=S_size x
 clear h1 h2 h hn
 have T1:∀ b:Bool,Blk.Is (w.setCell ⟨k,1,none⟩ (.bool b)) k 205 #[.slice a n c,.bool b]:=fun b=>H1.out.set 1 _
 have B1:∀ b:Bool,Below B w (w.setCell ⟨k,1,none⟩ (.bool b)):=fun b=>(Below.refl B w).setCell (p:=⟨k,1,none⟩) hB _
 have M1:∀ b:Bool,Mine (w.setCell ⟨k,1,none⟩ (.bool b)) B (.slice a n c) (nums txt):=fun b=>mine_set H2.out H1.out (by decide)
 have T1:=Lib.hid T1
 have B1:=Lib.hid B1
 have M1:=Lib.hid M1
 cases long with
 | true =>
  go_enter Tryz.func179,Tryz.ntmps179
  go_wp2_with fail
  refine bodyPost_end (results_none rfl _ _ _) rfl ⟨rfl,?_,B1.out true,Keeps.set w k 1 _⟩
  exact ⟨.slice a n c,T1.out true,M1.out true⟩
 | false =>
  by_cases hbig:65536 < n + x.length + 1
  ·have hbig':(65536:Int) < n + x.length + 1:=by omega
   have ha:addL (txt,false) x = (txt,true):=by
    unfold addL
    rw [if_pos (by simp [HN.out]; omega)]
   have HA:=Lib.hid ha
   clear ha
   go_enter Tryz.func179,Tryz.ntmps179
   go_wp2_with fail
   refine bodyPost_end (results_none rfl _ _ _) rfl ⟨rfl,?_,B1.out true,Keeps.set w k 1 _⟩
   rw [HA.out]
   exact ⟨.slice a n c,T1.out true,M1.out true⟩
  ·have hbig':¬ (65536:Int) < n + x.length + 1:=by omega
   have ha:addL (txt,false) x = (txt ++ x ++ [10],false):=by
    unfold addL
    rw [if_neg (by simp [HN.out]; omega)]
   have HA:=Lib.hid ha
   clear ha
   go_enter Tryz.func179,Tryz.ntmps179
   go_wp2_with (at_builtin; refine append_S rfl (.tmp 32) (.tmp 33) rfl B _ _ rfl (M1.out false) x rfl ?_ ?_ ?_)
   ·rw [nums_len,HN.out]; omega
   ·show B ≤ w.heap.size
    omega
   intro v2 w2 m2 g2
   have hsz:B ≤ (w.setCell ⟨k,1,none⟩ (.bool false)).heap.size:=by simp only [World.setCell,Array.size_modify]; omega
   have i2:=grown_is (M1.out false) (T1.out false) (by decide) g2
   have KP:=Lib.hid ((Keeps.set w k 1 (.bool false)).trans (Keeps.grown (k:=k) (M1.out false) g2))
   have b2:=Own.below_grown (B1.out false) (M1.out false).1 g2 hsz
   obtain ⟨n2,a2,c2,rfl,_,hn2,_⟩:=m2.rows
   have hs2:B ≤ w2.heap.size:=Nat.le_trans hsz (by have:=g2.size; exact this)
   have hl2:n2 = n + x.length:=by rw [← hn2,List.length_append,nums_len,nums_len,HN.out]
   have HL2:=Lib.hid hl2
   have hl2':n2 ≤ 65536:=by omega
   have I2:=Lib.hid i2
   have B2:=Lib.hid b2
   have M2:=Lib.hid m2
   clear i2 b2 m2 g2 hn2 hl2 c0 c1
   go_wp2_with (at_builtin; refine append_S rfl (.tmp 34) (.const (.string ⟨#[10]⟩)) rfl B _ _ rfl M2.out [10] rfl ?_ hs2 ?_)
   ·rw [List.length_append,nums_len,nums_len,HN.out,← HL2.out]
    show n2 + 1 ≤ _
    omega
   intro v3 w3 m3 g3
   have i3:=grown_is M2.out I2.out (by decide) g3
   have KP3:=Lib.hid ((KP.out.trans (Keeps.grown (k:=k) M2.out g3)))
   have b3:=Own.below_grown B2.out M2.out.1 g3 hs2
   obtain ⟨n3,a3,c3,rfl,_,hn3,_⟩:=m3.rows
   have d0:w3.cell? ⟨k,0,none⟩ = some (.slice a n c):=i3.at rfl
   have d1:w3.frozen? ⟨k,0,none⟩ = false:=i3.free 0
   have I3:=Lib.hid i3
   have B3:=Lib.hid b3
   have M3:=Lib.hid m3
   clear i3 b3 m3 g3 hn3
   go_wp2_with fail
   refine bodyPost_end (results_none rfl _ _ _) rfl ⟨rfl,?_,B3.out.setCell (p:=⟨k,0,none⟩) hB _,KP3.out.trans (Keeps.set w3 k 0 _)⟩
   rw [HA.out]
   refine ⟨.slice a3 n3 c3,I3.out.set 0 _,?_⟩
   have:=mine_set (i:=0) (u:=.slice a3 n3 c3) M3.out I3.out (by decide)
   show Mine _ _ _ (nums (txt ++ x ++ [10]))
   rw [nums_app,nums_app,List.append_assoc]
   exact this
end Stz
end Go.Proofs.YthmpepnikmdjpaaGreatDoor
namespace Go.Proofs.YthmpepnikmdjpaaGreatDoor
open Go.RowKit
set_option linter.unusedSimpArgs false
set_option linter.unusedVariables false
namespace Stz
theorem addL_len {p:Bs × Bool} (h:p.1.length ≤ 65536) (x:Bs):(addL p x).1.length ≤ 65536:=by
 unfold addL
 split
 ·exact h
 ·rename_i hn
  simp only [Bool.or_eq_true,decide_eq_true_eq,not_or] at hn
  simp only [List.length_append,List.length_singleton]
  omega
theorem addLs_len:∀ (ls:List Bs) {p:Bs × Bool},p.1.length ≤ 65536 → (ls.foldl addL p).1.length ≤ 65536
 | [],_,h=>h
 | x :: r,_,h=>addLs_len r (addL_len h x)
theorem addLs_snoc (p:Bs × Bool) (ls:List Bs) {k:Nat} (hk:k < ls.length):(ls.take (k + 1)).foldl addL p = addL ((ls.take k).foldl addL p) (ls.getD k []):=by
 rw [take_one hk,List.foldl_append]
 rfl
set_option maxRecDepth 100000 in
set_option maxHeartbeats 4000000 in
theorem pfield_any (w0:World) (k:Nat) (p:Bs × Bool) (nm:Bs) (u:Value) (ls:List Bs) (w:World) (h:PrAt w w0.heap.size k p) (hB:w0.heap.size ≤ k) (hp:p.1.length ≤ 65536) (ht:Txt.Texts w0 u (ls.map S)) (hb:Below w0.heap.size w0 w) (hs:Szd (nm,ls)) (hl:∀ x ∈ fieldLines (nm,ls),x.length ≤ 1000000) :
  Calls Tryz.prog 180 #[.pointer (some ⟨k,0,none⟩),.agg #[.string (S nm),u]] w fun e w'=>e = .returned (.tuple #[]) ∧ PrAt w' w0.heap.size k ((fieldLines (nm,ls)).foldl addL p) ∧ Below w0.heap.size w w' ∧ Keeps w w' k:=by
 obtain ⟨hN62,la,lc,rfl,_,_⟩:=id ht
 obtain ⟨N,hN⟩:∃ N,ls.length = N:=⟨_,rfl⟩
 rw [List.length_map,hN] at hN62 ht ⊢
 have HN:=Lib.hid hN
 have HLN:=Lib.hid (show (fieldLines (nm,ls)).length = N by rw [lines_len]; exact hN)
 obtain ⟨W,hW⟩:∃ W,w.alloc (.cells #[.string (S nm),.slice la N lc] 43) = W:=⟨_,rfl⟩
 have hbW:Below w.heap.size w W:=by rw [← hW]; exact (Below.refl _ _).alloc (Nat.le_refl _) _
 have hiW:Blk.Is W w.heap.size 43 #[.string (S nm),.slice la N lc]:=by rw [← hW]; exact Blk.Is.new w _ _
 have z0:W.cell? ⟨w.heap.size,0,none⟩ = some (.string (S nm)):=hiW.at rfl
 have z1:W.cell? ⟨w.heap.size,1,none⟩ = some (.slice la N lc):=hiW.at rfl
 have hsW:w.heap.size < W.heap.size:=by rw [← hW]; simp
 have hkw:k < w.heap.size:=by
  obtain ⟨v,h1,_⟩:=h
  exact h1.lt
 have HW:=Lib.hid (h.below hbW)
 have HT:=Lib.hid ht
 have HBW:=Lib.hid (hb.trans (hbW.mono hb.size))
 have HB0:=Lib.hid (hbW.mono hb.size)
 have HIW:=Lib.hid hiW
 have HS:=Lib.hid hs
 have HL:=Lib.hid hl
 have HSZ:=Lib.hid hb.size
 have HKP:=Lib.hid (Keeps.below (k:=k) hbW)
 have hnm:nm.length ≤ 140737488351232:=hs.1
 obtain ⟨z,hz⟩:∃ z,w.heap.size = z:=⟨_,rfl⟩
 rw [hz] at z0 z1 hsW hkw HIW HSZ
 have hzk:z ≠ k:=by omega
 clear h ht hb hs hl hbW hiW hN
 go_enter Tryz.func180,Tryz.ntmps180
 go_wp2_with fail
 clear z0 z1 hW hz
 go_loopw [8] (fun i u=>∃ q:Nat,q ≤ N ∧ i = .int .i64 q ∧ Hid (PrAt u w0.heap.size k (((fieldLines (nm,ls)).take q).foldl addL p)) ∧ Hid (Below w0.heap.size W u) ∧ Hid (Keeps W u k)) (fun i _=>N - (intOf i).toNat)
 case atStart=>exact ⟨0,by omega,rfl,HW,Lib.hid (Below.refl _ _),Lib.hid (fun _ _ _ h _ _=>h)⟩
 case round =>
  obtain ⟨q,hq,rfl,HP,HBQ,HKQ⟩:=hrel
  have y0:wr.cell? ⟨z,0,none⟩ = some (.string (S nm)):=(HKQ.out z _ _ HIW.out (by decide) hzk).at rfl
  have y1:wr.cell? ⟨z,1,none⟩ = some (.slice la N lc):=(HKQ.out z _ _ HIW.out (by decide) hzk).at rfl
  by_cases hlt:q < N
  ·have hlt':(q:Int) < N:=by omega
   have hql:q < ls.length:=by rw [HN.out]; exact hlt
   have hbw:=HBW.out.trans (HBQ.out.mono (Nat.le_refl _))
   have cl:=lineOf_any nm (.slice la N lc) ls q wr (HT.out.below hbw) hql hnm (HS.out.2 _ (by simp [List.getD,List.getElem?_eq_getElem hql]))
   have hxl:(lineAt (nm,ls) q).length ≤ 1000000:=by
    rw [← lines_at (nm,ls) hql]
    exact HL.out _ (by simp [List.getD,List.getElem?_eq_getElem (show q < (fieldLines (nm,ls)).length by rw [HLN.out]; exact hlt)])
   obtain ⟨x,hx⟩:∃ x,lineAt (nm,ls) q = x:=⟨_,rfl⟩
   rw [hx] at cl hxl
   have HX:=Lib.hid (show (fieldLines (nm,ls)).getD q [] = x by rw [lines_at (nm,ls) hql]; exact hx)
   clear hql hbw hx
   go_wp2_with fail
   refine cl.mono ?_
   rintro e w2 ⟨rfl,b2⟩
   have HP2:=Lib.hid (HP.out.below b2)
   have HB2:=Lib.hid (HBQ.out.trans (b2.mono (Nat.le_trans HBW.out.size HBQ.out.size)))
   have HK2:=Lib.hid (HKQ.out.trans (Keeps.below (k:=k) b2))
   clear cl b2 y0 y1 HP HBQ HKQ
   go_wp2_with fail
   refine (pline_any w0.heap.size k _ x w2 HP2.out hB (addLs_len _ hp) hxl).mono ?_
   rintro e w3 ⟨rfl,p3,b3,k3⟩
   have HP3:=Lib.hid (show PrAt w3 w0.heap.size k (((fieldLines (nm,ls)).take (q + 1)).foldl addL p) by rw [addLs_snoc p _ (by rw [HLN.out]; exact hlt),HX.out]; exact p3)
   have HB3:=Lib.hid (HB2.out.trans b3)
   have HK3:=Lib.hid (HK2.out.trans k3)
   clear p3 b3 k3 HP2 HB2 HK2
   go_wp2_with fail
   refine ⟨⟨q + 1,by omega,by go_num,HP3,HB3,HK3⟩,by simp [intOf]; omega⟩
  ·obtain rfl:q = N:=by omega
   go_wp2_with fail
   refine bodyPost_end (results_none rfl _ _ _) rfl ⟨rfl,?_,HB0.out.trans HBQ.out,HKP.out.trans HKQ.out⟩
   have:=HP.out
   rwa [List.take_of_length_le (by rw [HLN.out]; exact Nat.le_refl _)] at this
end Stz
end Go.Proofs.YthmpepnikmdjpaaGreatDoor

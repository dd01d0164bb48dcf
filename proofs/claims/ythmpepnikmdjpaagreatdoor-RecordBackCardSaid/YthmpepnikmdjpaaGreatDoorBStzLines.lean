/-
Print. A stanza that every program must know. Lines put together, and taken apart again; what a print is read as.
-/
import Derived.Test.YthmpepnikmdjpaaGreatDoorBStzPField
import Derived.Test.YthmpepnikmdjpaaGreatDoorBRecDef
import Derived.Lib.SlBytesConst
namespace Go.Proofs.YthmpepnikmdjpaaGreatDoor
open Go.RowKit
set_option linter.unusedSimpArgs false
set_option linter.unusedVariables false
namespace Stz
def BytesAt (w:World) (v:Value) (l:Bs):Prop:=∃ a cap,v = .slice a l.length cap ∧ (a = none → cap = 0) ∧ l.length ≤ cap ∧ Row w a l.length (nums l)
theorem BytesAt.below {w w':World} {v:Value} {l:Bs} (h:BytesAt w v l) (hb:Below w.heap.size w w'):BytesAt w' v l:=by
 obtain ⟨a,cap,h1,h2,h3,h4⟩:=h
 exact ⟨a,cap,h1,h2,h3,h4.below hb⟩
theorem BytesAt.none (w:World):BytesAt w (.slice none 0 0) []:=⟨Option.none,0,rfl,fun _=>rfl,Nat.le_refl _,Row.nil w⟩
theorem bytes_mine {w:World} {B:Nat} {v:Value} {l:Bs} (h:Mine w B v (nums l)):BytesAt w v l:=by
 obtain ⟨a,cap,h1,h2,h3⟩:=h.row
 rw [nums_len] at h1 h2 h3
 refine ⟨a,cap,h1,?_,h2,h3⟩
 rcases id h.1.2 with ⟨e,_⟩ | ⟨g,cap,cur,e,_⟩
 ·rw [h1] at e; simp only [Value.slice.injEq] at e; exact fun _=>e.2.2
 ·rw [h1] at e; simp only [Value.slice.injEq] at e; intro hn; rw [hn] at e; cases e.1
theorem long_stays:∀ (ls:List Bs) (t:Bs),(ls.foldl addL (t,true)).2 = true
 | [],_=>rfl
 | x :: r,t=>by
  have:addL (t,true) x = (t,true):=by simp [addL]
  rw [List.foldl_cons,this]
  exact long_stays r t
theorem fold_lines:∀ (ls:List Bs) (t:Bs),t.length ≤ 65536 → if 65536 < t.length + (fl ls).length then (ls.foldl addL (t,false)).2 = true else ls.foldl addL (t,false) = (t ++ fl ls,false)
 | [],t,h=>by
  rw [if_neg (by simp [fl]; omega)]
  simp [fl]
 | x :: r,t,h=>by
  rw [List.foldl_cons]
  have hfl:(fl (x :: r)).length = x.length + 1 + (fl r).length:=by simp [fl]; omega
  by_cases hx:65536 < t.length + x.length + 1
  ·rw [if_pos (by omega)]
   have:addL (t,false) x = (t,true):=by
    unfold addL
    rw [if_pos (by simpa using hx)]
   rw [this]
   exact long_stays r t
  ·have:addL (t,false) x = (t ++ x ++ [10],false):=by
    unfold addL
    rw [if_neg (by simpa using hx)]
   rw [this]
   have ih:=fold_lines r (t ++ x ++ [10]) (by simp; omega)
   have hl:(t ++ x ++ [10]).length = t.length + x.length + 1:=by simp; omega
   rw [hl] at ih
   by_cases hb:65536 < t.length + (fl (x :: r)).length
   ·rw [if_pos hb]
    rw [if_pos (by omega)] at ih
    exact ih
   ·rw [if_neg hb]
    rw [if_neg (by omega)] at ih
    rw [ih]
    simp [fl]
theorem all_snoc (l:List Sz) (s:Sz):allLines (l ++ [s]) = if l = [] then stanzaLines s.2 else allLines l ++ [] :: stanzaLines s.2:=by
 induction l with
 | nil=>rfl
 | cons t r ih =>
  rw [if_neg (by simp)]
  cases r with
  | nil=>rfl
  | cons t' r' =>
   rw [if_neg (by simp)] at ih
   show stanzaLines t.2 ++ [] :: allLines (t' :: r' ++ [s]) = (stanzaLines t.2 ++ [] :: allLines (t' :: r')) ++ _
   rw [ih]
   simp
theorem stanza_snoc (fs:List Fld) {q:Nat} (h:q < fs.length):stanzaLines (fs.take (q + 1)) = stanzaLines (fs.take q) ++ fieldLines (fs.getD q ([],[])):=by
 unfold stanzaLines
 rw [List.take_succ_eq_append_getElem h,List.flatMap_append]
 simp [List.getD,List.getElem?_eq_getElem h]
theorem take_sz (l:List Sz) {k:Nat} (h:k < l.length):l.take (k + 1) = l.take k ++ [l.getD k (0,[])]:=by
 rw [List.take_succ_eq_append_getElem h]
 simp [List.getD,List.getElem?_eq_getElem h]
theorem take_nil (l:List Sz) {k:Nat} (h:k < l.length):l.take k = [] ↔ k = 0:=by
 constructor
 ·intro e
  have:=congrArg List.length e
  rw [List.length_take,List.length_nil] at this
  omega
 ·rintro rfl; rfl
theorem ok_lines {l:List Sz} (h:listErr l = 0):∀ s ∈ l,∀ f ∈ s.2,∀ x ∈ fieldLines f,x.length ≤ 1000000:=by
 intro s hs f hf x hx
 have he:=(list_each h).2
 have hse:stanzaErr s = 0:=by
  clear h
  induction l with
  | nil=>cases hs
  | cons t r ih =>
   unfold eachErr at he
   split at he
   ·rename_i hne; exact absurd he hne
   ·rename_i hne
    rcases List.mem_cons.1 hs with rfl | hs
    ·exact Classical.not_not.1 hne
    ·exact ih hs he
 have:=stanza_lines_ok s.2 [] (stanza_err hse).2.2 x (List.mem_flatMap.2 ⟨f,hf,hx⟩)
 exact Nat.le_trans this.2 (by omega)
set_option maxRecDepth 100000 in
set_option maxHeartbeats 4000000 in
theorem print_any (v:Value) (l:List Sz) (w:World) (h:Stzs w v l) (hs:∀ s ∈ l,∀ f ∈ s.2,Szd f) (hT:Lib.Utf8Tabs 3 4 w) :
  Calls Tryz.prog 128 #[v] w fun e w'=>∃ u,e = .returned (.tuple #[u,.int .i64 (print l).2]) ∧ BytesAt w' u (print l).1 ∧ Below w.heap.size w w':=by
 have HST:=Lib.hid h
 obtain ⟨hmx,a,cap,rfl,hcap,hread⟩:=id h
 have cc:=check_any _ l w h hs hT
 have HS:=Lib.hid hs
 obtain ⟨N,hN⟩:∃ N,l.length = N:=⟨_,rfl⟩
 have HN:=Lib.hid hN
 rw [hN] at hcap hmx cc HST ⊢
 obtain ⟨G,hG⟩:∃ G,listErr l = G:=⟨_,rfl⟩
 have HG:=Lib.hid hG
 rw [hG] at cc
 clear hread hs hT hN hG h
 go_enter Tryz.func128,Tryz.ntmps128
 go_wp2_with fail
 refine cc.mono ?_
 rintro e w1 ⟨rfl,b1⟩
 have HST1:=Lib.hid (HST.out.below b1)
 have HB1:=Lib.hid b1
 clear cc b1 HST
 by_cases hG0:G = 0
 ·have hb0:((G:Int) == 0) = true:=by subst hG0; rfl
  have hb1:((G:Int) != 0) = false:=by subst hG0; rfl
  have HOK:=Lib.hid (ok_lines (show listErr l = 0 by rw [HG.out]; exact hG0))
  have HG0:=Lib.hid hG0
  clear hG0
  go_wp2_with fail
  clear hb1
  have hp0:PrAt (w1.alloc (.cells #[.slice none 0 0,.bool false] 205)) w1.heap.size w1.heap.size ([],false):=⟨.slice none 0 0,Blk.Is.new w1 _ _,mine_none _ _⟩
  have hbA:Below w1.heap.size w1 (w1.alloc (.cells #[.slice none 0 0,.bool false] 205)):=(Below.refl _ _).alloc (Nat.le_refl _) _
  obtain ⟨W1,hW1⟩:∃ W1,w1.alloc (.cells #[.slice none 0 0,.bool false] 205) = W1:=⟨_,rfl⟩
  rw [hW1] at hp0 hbA ⊢
  have HP0:=Lib.hid hp0
  have HBA:=Lib.hid hbA
  obtain ⟨B,hB⟩:∃ B,w1.heap.size = B:=⟨_,rfl⟩
  rw [hB] at HP0 HBA ⊢
  have HBB:=Lib.hid hB
  clear hp0 hbA hW1 hB hb0
  go_loopw [17] (fun i u=>∃ k:Nat,k ≤ N ∧ i = .int .i64 k ∧ Hid (PrAt u B B ((allLines (l.take k)).foldl addL ([],false))) ∧ Hid (Below B w1 u)) (fun i _=>N - (intOf i).toNat)
  case atStart=>exact ⟨0,by omega,rfl,HP0,HBA⟩
  case round =>
   obtain ⟨k,hk,rfl,HP,HB⟩:=hrel
   by_cases hlt:k < N
   ·have hkl:k < l.length:=by rw [HN.out]; exact hlt
    obtain ⟨_,a',cap',ea,_,hread⟩:=HST1.out
    simp only [Value.slice.injEq] at ea
    obtain ⟨rfl,eN,rfl⟩:=ea
    clear eN
    obtain ⟨g,off,rfl,hat⟩:=hread (by omega)
    obtain ⟨x0,u,x1,hF⟩:=hat k hkl
    obtain ⟨s,hs⟩:∃ s,l.getD k (0,[]) = s:=⟨_,rfl⟩
    have hsl:s ∈ l:=by rw [← hs]; simp [List.getD,List.getElem?_eq_getElem hkl]
    have hsm:∀ f ∈ s.2,Szd f:=HS.out s hsl
    have hok:∀ f ∈ s.2,∀ x ∈ fieldLines f,x.length ≤ 1000000:=HOK.out s hsl
    rw [hs] at x0 hF
    have hB1:Below w1.heap.size w1 wr:=by rw [HBB.out]; exact HB.out
    rw [← hB1.cell (Txt.lt_cell x0)] at x0
    rw [← hB1.cell (Txt.lt_cell x1)] at x1
    obtain ⟨line,fs⟩:=s
    obtain ⟨F,hFn⟩:∃ F,fs.length = F:=⟨_,rfl⟩
    obtain ⟨hF60,fa,fc,rfl,hfc,_⟩:=id hF
    have x0':wr.cell? ⟨g,off + k * 2,none⟩ = some (.int .i64 line):=by rw [Nat.mul_comm]; exact x0
    have x1':wr.cell? ⟨g,off + k * 2 + 1,none⟩ = some (.slice fa F fc):=by rw [Nat.mul_comm,← hFn]; exact x1
    have k0:(0:Int) ≤ k:=by omega
    have k1:(k:Int) < N:=by omega
    obtain ⟨W,hW⟩:∃ W,wr.alloc (.cells #[.int .i64 line,.slice fa F fc] 40) = W:=⟨_,rfl⟩
    have hbW:Below wr.heap.size wr W:=by rw [← hW]; exact (Below.refl _ _).alloc (Nat.le_refl _) _
    have hiW:Blk.Is W wr.heap.size 40 #[.int .i64 line,.slice fa F fc]:=by rw [← hW]; exact Blk.Is.new wr _ _
    have hBs:B ≤ wr.heap.size:=by rw [← HBB.out]; exact HB.out.size
    have hBz:B < wr.heap.size:=by
     obtain ⟨_,h1,_⟩:=HP.out
     exact h1.lt
    have z1:W.cell? ⟨wr.heap.size,1,none⟩ = some (.slice fa F fc):=hiW.at rfl
    have HPW:=Lib.hid (HP.out.below hbW)
    have HBW:=Lib.hid (HB.out.trans (hbW.mono hBs))
    have HIW:=Lib.hid hiW
    have HF:=Lib.hid (show Flds w1 (.slice fa F fc) fs by rw [← hFn]; exact hF)
    have HSM:=Lib.hid hsm
    have HOF:=Lib.hid hok
    have HSL:=Lib.hid hs
    have HKL:=Lib.hid hkl
    rw [hFn] at hF60 hfc
    have HFN:=Lib.hid hFn
    clear hat hF x0 x1 hs hkl hsm hok hsl hB1 hbW hiW hFn hread HP HB
    have hbs:B < W.heap.size:=Nat.lt_of_lt_of_le hBz (by rw [← hW]; simp)
    obtain ⟨z,hz⟩:∃ z,wr.heap.size = z:=⟨_,rfl⟩
    have hzB:z ≠ B:=by omega
    rw [hz] at z1 HIW
    by_cases hk0:k = 0
    ·have hk0':¬ (0:Int) < k:=by omega
     have HPRE:=Lib.hid (show PrAt W B B (([]:List Bs).foldl addL ([],false)) by
      have:=HPW.out
      rwa [(take_nil l HKL.out).2 hk0] at this)
     have HALL:=Lib.hid (show ∀ q,[] ++ stanzaLines (fs.take q) = stanzaLines (fs.take q) from fun q=>List.nil_append _)
     have HEND:=Lib.hid (show allLines (l.take (k + 1)) = [] ++ stanzaLines fs by
      rw [take_sz l HKL.out,all_snoc,if_pos ((take_nil l HKL.out).2 hk0),HSL.out]; rfl)
     clear hk0 HPW
     go_wp2_with fail
     have HB3:=HBW
     have hs3:B < W.heap.size:=by have:=hbs; omega
     clear z1 hk0' x0' x1' hW k0 k1
     go_loopw [28] (fun i u=>∃ q:Nat,q ≤ F ∧ i = .int .i64 q ∧ Hid (PrAt u B B (([] ++ stanzaLines (fs.take q)).foldl addL ([],false))) ∧ Hid (Below B w1 u)) (fun i _=>F - (intOf i).toNat)
     case atStart=>exact ⟨0,by omega,rfl,Lib.hid (by have:=HPRE.out; rw [List.take_zero]; simpa [stanzaLines] using this),HB3⟩
     case round =>
      obtain ⟨q,hq,rfl,HPQ,HBQ⟩:=hrel
      by_cases hql:q < F
      ·have hqf:q < fs.length:=by rw [HFN.out]; exact hql
       obtain ⟨_,fa',fc',ef,_,hfread⟩:=HF.out
       simp only [Value.slice.injEq] at ef
       obtain ⟨rfl,eF,rfl⟩:=ef
       clear eF
       obtain ⟨fg,foff,rfl,hfat⟩:=hfread (by omega)
       obtain ⟨y0,u,y1,hT⟩:=hfat q hqf
       obtain ⟨f,hf⟩:∃ f,fs.getD q ([],[]) = f:=⟨_,rfl⟩
       have hfm:f ∈ fs:=by rw [← hf]; simp [List.getD,List.getElem?_eq_getElem hqf]
       have hszd:Szd f:=HSM.out f hfm
       have hlx:∀ x ∈ fieldLines f,x.length ≤ 1000000:=HOF.out f hfm
       rw [hf] at y0 hT
       have hB1:Below w1.heap.size w1 wr:=by rw [HBB.out]; exact HBQ.out
       rw [← hB1.cell (Txt.lt_cell y0)] at y0
       rw [← hB1.cell (Txt.lt_cell y1)] at y1
       obtain ⟨nm,ls⟩:=f
       obtain ⟨M,hM⟩:∃ M,ls.length = M:=⟨_,rfl⟩
       obtain ⟨_,la,lc,rfl,_,_⟩:=id hT
       have y0':wr.cell? ⟨fg,foff + q * 2,none⟩ = some (.string (S nm)):=by rw [Nat.mul_comm]; exact y0
       have y1':wr.cell? ⟨fg,foff + q * 2 + 1,none⟩ = some (.slice la M lc):=by rw [Nat.mul_comm]; rw [List.length_map,hM] at y1; exact y1
       have hT':Txt.Texts w1 (.slice la M lc) (ls.map S):=by rw [List.length_map,hM] at hT; exact hT
       have q0:(0:Int) ≤ q:=by omega
       have q1:(q:Int) < F:=by omega
       have hBz:B < wr.heap.size:=by
        obtain ⟨_,h1,_⟩:=HPQ.out
        exact h1.lt
       obtain ⟨V,hV⟩:∃ V,wr.alloc (.cells #[.string (S nm),.slice la M lc] 43) = V:=⟨_,rfl⟩
       have hbV:Below wr.heap.size wr V:=by rw [← hV]; exact (Below.refl _ _).alloc (Nat.le_refl _) _
       have hiV:Blk.Is V wr.heap.size 43 #[.string (S nm),.slice la M lc]:=by rw [← hV]; exact Blk.Is.new wr _ _
       have v0:V.cell? ⟨wr.heap.size,0,none⟩ = some (.string (S nm)):=hiV.at rfl
       have v1:V.cell? ⟨wr.heap.size,1,none⟩ = some (.slice la M lc):=hiV.at rfl
       have HBV:=Lib.hid (hB1.trans (hbV.mono hB1.size))
       have cp:=pfield_any w1 B _ nm (.slice la M lc) ls V (by rw [HBB.out]; exact HPQ.out.below hbV) (by rw [HBB.out]; exact Nat.le_refl _) (addLs_len _ (by simp)) hT' HBV.out hszd hlx
       have CP:=Lib.hid cp
       have HNEXT:=Lib.hid (show stanzaLines (fs.take (q + 1)) = stanzaLines (fs.take q) ++ fieldLines (nm,ls) by rw [stanza_snoc fs hqf,hf])
       clear hfat y0 y1 hf hfm hszd hlx hB1 hT hT' hM hbV hiV cp hqf hfread HPQ HBQ
       go_wp2_with fail
       refine CP.out.mono ?_
       rintro e w5 ⟨rfl,p5,b5,_⟩
       have HP5:=Lib.hid (show PrAt w5 B B (([] ++ stanzaLines (fs.take (q + 1))).foldl addL ([],false)) by
        rw [HNEXT.out,← List.append_assoc,List.foldl_append,← HBB.out]
        rw [HBB.out] at p5 ⊢
        exact p5)
       have HB5:=Lib.hid (show Below B w1 w5 by have:=HBV.out.trans b5; rwa [HBB.out] at this)
       clear p5 b5 CP HBV hV v0 v1
       go_wp2_with fail
       exact ⟨⟨q + 1,by omega,by go_num,HP5,HB5⟩,by simp [intOf]; omega⟩
      ·obtain rfl:q = F:=by omega
       go_wp2_with fail
       refine ⟨⟨k + 1,by omega,by go_num,Lib.hid ?_,HBQ⟩,by simp [intOf]; omega⟩
       rw [HEND.out]
       have:=HPQ.out
       rwa [show fs.take q = fs from List.take_of_length_le (by rw [HFN.out]; exact Nat.le_refl _)] at this
    ·have hk0':(0:Int) < k:=by omega
     have HEND:=Lib.hid (show allLines (l.take (k + 1)) = (allLines (l.take k) ++ [[]]) ++ stanzaLines fs by
      rw [take_sz l HKL.out,all_snoc,if_neg (fun e=>hk0 ((take_nil l HKL.out).1 e)),HSL.out,List.append_assoc]; rfl)
     clear hk0
     go_wp2_with fail
     refine (pline_any B B _ [] W HPW.out (Nat.le_refl _) (addLs_len _ (by simp)) (by simp)).mono ?_
     rintro e w3 ⟨rfl,p3,b3,k3⟩
     have HPRE:=Lib.hid (show PrAt w3 B B ((allLines (l.take k) ++ [[]]).foldl addL ([],false)) by rw [List.foldl_append]; exact p3)
     have HB3:=Lib.hid (HBW.out.trans b3)
     have z1:w3.cell? ⟨z,1,none⟩ = some (.slice fa F fc):=(k3 z _ _ HIW.out (by decide) hzB).at rfl
     have hs3:B < w3.heap.size:=by
      obtain ⟨_,h1,_⟩:=p3
      exact h1.lt
     clear p3 b3 k3 HPW HBW HIW
     go_wp2_with fail
     clear z1 hk0' x0' x1' hW k0 k1
     go_loopw [28] (fun i u=>∃ q:Nat,q ≤ F ∧ i = .int .i64 q ∧ Hid (PrAt u B B ((allLines (l.take k) ++ [[]] ++ stanzaLines (fs.take q)).foldl addL ([],false))) ∧ Hid (Below B w1 u)) (fun i _=>F - (intOf i).toNat)
     case atStart=>exact ⟨0,by omega,rfl,Lib.hid (by have:=HPRE.out; rw [List.take_zero]; simpa [stanzaLines] using this),HB3⟩
     case round =>
      obtain ⟨q,hq,rfl,HPQ,HBQ⟩:=hrel
      by_cases hql:q < F
      ·have hqf:q < fs.length:=by rw [HFN.out]; exact hql
       obtain ⟨_,fa',fc',ef,_,hfread⟩:=HF.out
       simp only [Value.slice.injEq] at ef
       obtain ⟨rfl,eF,rfl⟩:=ef
       clear eF
       obtain ⟨fg,foff,rfl,hfat⟩:=hfread (by omega)
       obtain ⟨y0,u,y1,hT⟩:=hfat q hqf
       obtain ⟨f,hf⟩:∃ f,fs.getD q ([],[]) = f:=⟨_,rfl⟩
       have hfm:f ∈ fs:=by rw [← hf]; simp [List.getD,List.getElem?_eq_getElem hqf]
       have hszd:Szd f:=HSM.out f hfm
       have hlx:∀ x ∈ fieldLines f,x.length ≤ 1000000:=HOF.out f hfm
       rw [hf] at y0 hT
       have hB1:Below w1.heap.size w1 wr:=by rw [HBB.out]; exact HBQ.out
       rw [← hB1.cell (Txt.lt_cell y0)] at y0
       rw [← hB1.cell (Txt.lt_cell y1)] at y1
       obtain ⟨nm,ls⟩:=f
       obtain ⟨M,hM⟩:∃ M,ls.length = M:=⟨_,rfl⟩
       obtain ⟨_,la,lc,rfl,_,_⟩:=id hT
       have y0':wr.cell? ⟨fg,foff + q * 2,none⟩ = some (.string (S nm)):=by rw [Nat.mul_comm]; exact y0
       have y1':wr.cell? ⟨fg,foff + q * 2 + 1,none⟩ = some (.slice la M lc):=by rw [Nat.mul_comm]; rw [List.length_map,hM] at y1; exact y1
       have hT':Txt.Texts w1 (.slice la M lc) (ls.map S):=by rw [List.length_map,hM] at hT; exact hT
       have q0:(0:Int) ≤ q:=by omega
       have q1:(q:Int) < F:=by omega
       have hBz:B < wr.heap.size:=by
        obtain ⟨_,h1,_⟩:=HPQ.out
        exact h1.lt
       obtain ⟨V,hV⟩:∃ V,wr.alloc (.cells #[.string (S nm),.slice la M lc] 43) = V:=⟨_,rfl⟩
       have hbV:Below wr.heap.size wr V:=by rw [← hV]; exact (Below.refl _ _).alloc (Nat.le_refl _) _
       have hiV:Blk.Is V wr.heap.size 43 #[.string (S nm),.slice la M lc]:=by rw [← hV]; exact Blk.Is.new wr _ _
       have v0:V.cell? ⟨wr.heap.size,0,none⟩ = some (.string (S nm)):=hiV.at rfl
       have v1:V.cell? ⟨wr.heap.size,1,none⟩ = some (.slice la M lc):=hiV.at rfl
       have HBV:=Lib.hid (hB1.trans (hbV.mono hB1.size))
       have cp:=pfield_any w1 B _ nm (.slice la M lc) ls V (by rw [HBB.out]; exact HPQ.out.below hbV) (by rw [HBB.out]; exact Nat.le_refl _) (addLs_len _ (by simp)) hT' HBV.out hszd hlx
       have CP:=Lib.hid cp
       have HNEXT:=Lib.hid (show stanzaLines (fs.take (q + 1)) = stanzaLines (fs.take q) ++ fieldLines (nm,ls) by rw [stanza_snoc fs hqf,hf])
       clear hfat y0 y1 hf hfm hszd hlx hB1 hT hT' hM hbV hiV cp hqf hfread HPQ HBQ
       go_wp2_with fail
       refine CP.out.mono ?_
       rintro e w5 ⟨rfl,p5,b5,_⟩
       have HP5:=Lib.hid (show PrAt w5 B B ((allLines (l.take k) ++ [[]] ++ stanzaLines (fs.take (q + 1))).foldl addL ([],false)) by
        rw [HNEXT.out,← List.append_assoc,List.foldl_append,← HBB.out]
        rw [HBB.out] at p5 ⊢
        exact p5)
       have HB5:=Lib.hid (show Below B w1 w5 by have:=HBV.out.trans b5; rwa [HBB.out] at this)
       clear p5 b5 CP HBV hV v0 v1
       go_wp2_with fail
       exact ⟨⟨q + 1,by omega,by go_num,HP5,HB5⟩,by simp [intOf]; omega⟩
      ·obtain rfl:q = F:=by omega
       go_wp2_with fail
       refine ⟨⟨k + 1,by omega,by go_num,Lib.hid ?_,HBQ⟩,by simp [intOf]; omega⟩
       rw [HEND.out]
       have:=HPQ.out
       rwa [show fs.take q = fs from List.take_of_length_le (by rw [HFN.out]; exact Nat.le_refl _)] at this
   ·obtain rfl:k = N:=by omega
    obtain ⟨pa,pc,i1,m1,_⟩:=HP.out.shape
    rw [List.take_of_length_le (by rw [HN.out]; exact Nat.le_refl _)] at i1 m1
    have hfold:=fold_lines (allLines l) [] (by simp)
    by_cases hbig:65536 < (fl (allLines l)).length
    ·rw [if_pos (by simpa using hbig)] at hfold
     rw [hfold] at i1
     have c1:wr.cell? ⟨B,1,none⟩ = some (.bool true):=i1.at rfl
     have hpr:print l = ([],2):=by
      unfold print
      rw [if_neg (by rw [HG.out,HG0.out]; simp),if_pos hbig]
     have HPR:=Lib.hid hpr
     clear hpr hfold i1 m1
     go_wp2_with fail
     go_ret2
     rw [HPR.out]
     exact ⟨_,rfl,BytesAt.none _,HB1.out.trans ((show Below w1.heap.size w1 wr by rw [HBB.out]; exact HB.out).mono HB1.out.size)⟩
    ·rw [if_neg (by simpa using hbig)] at hfold
     rw [hfold] at i1 m1
     rw [List.nil_append] at i1 m1
     obtain ⟨P,hP⟩:∃ P,fl (allLines l) = P:=⟨_,rfl⟩
     have hpr:print l = (P,0):=by
      unfold print
      rw [if_neg (by rw [HG.out,HG0.out]; simp),if_neg hbig,hP]
     rw [hP] at i1 m1
     have c0:wr.cell? ⟨B,0,none⟩ = some (.slice pa P.length pc):=i1.at rfl
     have c1:wr.cell? ⟨B,1,none⟩ = some (.bool false):=i1.at rfl
     have HPR:=Lib.hid hpr
     have M1:=Lib.hid m1
     clear hpr hfold i1 m1 hP
     go_wp2_with fail
     go_ret2
     rw [HPR.out]
     exact ⟨_,rfl,bytes_mine M1.out,HB1.out.trans ((show Below w1.heap.size w1 wr by rw [HBB.out]; exact HB.out).mono HB1.out.size)⟩
 ·have hb0:((G:Int) == 0) = false:=by
   rw [beq_eq_false_iff_ne]
   omega
  have hpr:print l = ([],G):=by
   unfold print
   rw [if_pos (by rw [HG.out]; exact hG0),HG.out]
  have HPR:=Lib.hid hpr
  clear hpr
  go_wp2_with fail
  go_ret2
  rw [HPR.out]
  exact ⟨_,rfl,BytesAt.none _,HB1.out⟩
end Stz
end Go.Proofs.YthmpepnikmdjpaaGreatDoor
namespace Go.Proofs.YthmpepnikmdjpaaGreatDoor
open Go.RowKit
set_option linter.unusedSimpArgs false
set_option linter.unusedVariables false
namespace Stz
def awNums:List Int:=[80,97,99,107,97,103,101,58,32,97,10,68,101,112,101,110,100,115,58,32,98,44,10,9,99,10]
def awPackage:Bs:=[80,97,99,107,97,103,101]
def awDepends:Bs:=[68,101,112,101,110,100,115]
def awFields:List Fld:=[(awPackage,[[97]]),(awDepends,[[98,44],[99]])]
def awLines:List Bs:=[[80,97,99,107,97,103,101,58,32,97],[68,101,112,101,110,100,115,58,32,98,44],[9,99]]
theorem aw_parse:parse awLines = ([(1,awFields)],0,0):=by kernel_rfl
theorem aw_lines:awLines = Txt.linesL (strOfNums awNums).data.toList:=by decide +kernel
theorem bytes_S (l:List Bs):bytes (l.map S) = l:=by
 unfold bytes
 simp [List.map_map,Function.comp_def,S_data]
theorem aw_E:∀ i,i < 3 → Txt.E ((awLines.map S).getD i ByteArray.empty) = 0:=by decide +kernel
theorem aw_pr:PR (strOfNums awNums) [(1,awFields)] 0 0:=by
 refine ⟨awLines.map S,0,0,?_,.inr ⟨rfl,by rw [bytes_S]; exact aw_parse⟩⟩
 unfold Txt.LR
 rw [if_neg (by decide +kernel)]
 refine .inl ⟨rfl,rfl,?_,fun i hi=>aw_E i hi⟩
 unfold Txt.LinesOf
 rw [← aw_lines]
 exact bytes_S awLines
end Stz
end Go.Proofs.YthmpepnikmdjpaaGreatDoor
namespace Go.Proofs.YthmpepnikmdjpaaGreatDoor
open Go.RowKit
set_option linter.unusedSimpArgs false
set_option linter.unusedVariables false
namespace Stz
open Txt (spl put dl linesL)
theorem spl_line:∀ (x r:Bs),(∀ c ∈ x,c ≠ 10) → spl (x ++ 10 :: r) = x :: spl r
 | [],r,_=>rfl
 | c :: x,r,h=>by
  have e:spl (c :: (x ++ 10 :: r)) = if c = 10 then [] :: spl (x ++ 10 :: r) else put c (spl (x ++ 10 :: r)):=rfl
  rw [List.cons_append,e,if_neg (h c (by simp)),spl_line x r (fun d hd=>h d (by simp [hd]))]
  rfl
theorem spl_fl:∀ (ls:List Bs),(∀ x ∈ ls,∀ c ∈ x,c ≠ 10) → spl (fl ls) = ls ++ [[]]
 | [],_=>rfl
 | x :: r,h=>by
  show spl (x ++ 10 :: fl r) = _
  rw [spl_line x _ (h x (by simp)),spl_fl r (fun y hy=>h y (by simp [hy]))]
  rfl
theorem lines_fl {ls:List Bs} (h:∀ x ∈ ls,∀ c ∈ x,c ≠ 10):linesL (fl ls) = ls:=by
 unfold linesL
 rw [spl_fl ls h,Txt.dl_last,if_pos rfl]
theorem ok_E {x:Bs} (h:LineOK x):Txt.E (S x) = 0:=by
 unfold Txt.E
 have h1:Txt.good (S x) = -1:=h.1
 rw [S_size,if_neg (by have:=h.2; omega),if_neg (by rw [h1]; omega)]
theorem pr_lines {ls:List Bs} (hok:∀ x ∈ ls,LineOK x) (hs:¬ 65536 < (fl ls).length) {l:List Sz} {er n:Nat} (hp:parse ls = (l,er,n)):PR (S (fl ls)) l er n:=by
 refine ⟨ls.map S,0,0,?_,.inr ⟨rfl,by rw [bytes_S]; exact hp⟩⟩
 unfold Txt.LR
 rw [S_size,if_neg hs]
 refine .inl ⟨rfl,rfl,?_,fun i hi=>?_⟩
 ·unfold Txt.LinesOf
  rw [S_data,lines_fl (fun x hx=>good_plain (hok x hx).1)]
  exact bytes_S ls
 ·simp only [List.length_map] at hi
  rw [show (ls.map S).getD i ByteArray.empty = S (ls[i]) by simp [List.getD,hi]]
  exact ok_E (hok _ (List.getElem_mem hi))
theorem print_back {l:List Sz} (h:listErr l = 0) (hs:¬ 65536 < (fl (allLines l)).length):∃ m,PR (S (fl (allLines l))) m 0 0 ∧ Like m l:=by
 obtain ⟨m,hp,hk⟩:=parse_print h
 exact ⟨m,pr_lines (all_lines_ok l (list_each h).2) hs hp,hk⟩
theorem print_ok {l:List Sz} (h:(print l).2 = 0):listErr l = 0 ∧ ¬ 65536 < (fl (allLines l)).length ∧ (print l).1 = fl (allLines l):=by
 unfold print at h ⊢
 split at h
 ·rename_i hne
  exact absurd h hne
 ·rename_i hne
  split at h
  ·simp at h
  ·rename_i hl
   exact ⟨Classical.not_not.1 hne,hl,by rw [if_neg hne,if_neg hl]⟩
theorem nums_S (l:Bs):strOfNums (nums l) = S l:=by
 apply ByteArray.ext
 simp [strOfNums,nums,S,List.map_map,Function.comp_def]
theorem BytesAt.conv {w:World} {v:Value} {l:Bs} (h:BytesAt w v l):(convert 51 9 v).run Tryz.prog w = .ok (.string (S l)) w:=by
 obtain ⟨a,cap,rfl,_,_,hr⟩:=h
 rw [hr.conv cap,nums_S]
end Stz
end Go.Proofs.YthmpepnikmdjpaaGreatDoor

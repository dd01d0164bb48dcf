/-
Fold and Get. The mathematics of packages and entries: what they are, which may be, what a stanza tells, which stanza tells it. What has been read, written and read again, is the same: the mathematics.
-/
import Derived.Test.YthmpepnikmdjpaaGreatDoorARow
import Derived.Test.YthmpepnikmdjpaaGreatDoorAValRead
import Derived.Test.YthmpepnikmdjpaaGreatDoorAWordsGo
import Derived.Test.YthmpepnikmdjpaaGreatDoorAStzParse
import Derived.Test.YthmpepnikmdjpaaGreatDoorARelSingles
namespace Go.Proofs.YthmpepnikmdjpaaGreatDoor
open Go.RowKit
set_option linter.unusedSimpArgs false
set_option linter.unusedVariables false
namespace Stz
open Txt (trimL)
def partsL (ls:List Bs):List Bs:=(ls.map trimL).filter fun x=>!x.isEmpty
def foldL (ls:List Bs):Bs:=Lib.join (partsL ls) [32]
theorem parts_snoc (ls:List Bs) (x:Bs):partsL (ls ++ [x]) = if trimL x = [] then partsL ls else partsL ls ++ [trimL x]:=by
 unfold partsL
 rw [List.map_append,List.filter_append]
 cases h:trimL x with
 | nil=>simp [h]
 | cons c r=>simp [h]
theorem parts_len (ls:List Bs):(partsL ls).length ≤ ls.length:=by
 unfold partsL
 have:=List.length_filter_le (fun x:Bs=>!x.isEmpty) (ls.map trimL)
 simpa using this
theorem take_one {ls:List Bs} {k:Nat} (h:k < ls.length):ls.take (k + 1) = ls.take k ++ [ls.getD k []]:=by
 rw [List.take_succ_eq_append_getElem h]
 simp [List.getD,List.getElem?_eq_getElem h]
theorem map_getD (ls:List Bs) {k:Nat} (h:k < ls.length):(ls.map S).getD k ByteArray.empty = S (ls.getD k []):=by
 simp [List.getD,List.getElem?_eq_getElem h]
theorem neq_empty (t:ByteArray):(!t.toList.isEmpty) = !decide (t.data.toList = []):=by
 rw [Lib.toList_data]
 cases t.data.toList <;> rfl
set_option maxRecDepth 100000 in
set_option maxHeartbeats 4000000 in
theorem join_none (w:World):Calls Tryz.prog 151 #[.slice none 0 0,.string ⟨#[32]⟩] w fun e w'=>e = .returned (.string (S [])) ∧ w' = w:=by
 go_enter Tryz.func151,Tryz.ntmps151
 go_wp2_with fail
 go_ret
 exact ⟨rfl,rfl⟩
theorem join_any (B:Nat) (v:Value) (ps:List Bs) (w:World) (h:w.ownsRow B 9 1 v ps.length ((ps.map S).map Value.string)) (hn:ps.length ≤ 1000000) (hl:(Lib.join ps [32]).length ≤ 140737488355328) :
  Calls Tryz.prog 151 #[v,.string ⟨#[32]⟩] w fun e w'=>e = .returned (.string (S (Lib.join ps [32]))) ∧ Below w.heap.size w w':=by
 by_cases h0:ps.length = 0
 ·obtain rfl:ps = []:=List.length_eq_zero_iff.1 h0
  rcases h.2 with ⟨rfl,_⟩ | ⟨g,cap,cur,rfl,hg,hh,hc,hm,hs,ht⟩
  ·exact (join_none w).mono fun e w' hh=>⟨hh.1,by rw [hh.2]; exact Below.refl _ _⟩
  ·have:=Tryz.strings_Join g 0 cap [] ⟨#[32]⟩ w (fun j x hj=>by cases hj) (Array.getElem?_eq_some_iff.1 hh).1 (by simp) (by simp) (by simp [Lib.join])
   exact this
 ·obtain ⟨g,cap,rfl,hc⟩:=own_slice h (by omega)
  have hcell:∀ (j:Nat) x,(ps.map S)[j]? = some x → w.cell? ⟨g,0 + j,none⟩ = some (.string x):=fun j x hj=>by
   rw [Nat.zero_add]
   exact own_cell h (by rw [List.getElem?_map,hj]; rfl)
  have hlt:=(own_lt h (k:=g) rfl).2
  have hmap:(ps.map S).map (fun t:ByteArray=>t.data.toList) = ps:=by simp [List.map_map,Function.comp_def,S_data]
  have:=Tryz.strings_Join g 0 cap (ps.map S) ⟨#[32]⟩ w hcell hlt (by rw [List.length_map]; omega) (by rw [List.length_map]; exact hc) (by rw [hmap]; exact hl)
  rw [hmap,List.length_map] at this
  exact this
set_option maxRecDepth 100000 in
set_option maxHeartbeats 4000000 in
theorem fold_any (v:Value) (ls:List Bs) (w:World) (h:Txt.Texts w v (ls.map S)) (hn:ls.length ≤ 1000000) (hs:∀ x ∈ ls,x.length ≤ 9223372036854775807) (hl:(foldL ls).length ≤ 140737488355328) (hT:Lib.Utf8Tabs 3 4 w) :
  Calls Tryz.prog 100 #[v] w fun e w'=>e = .returned (.string (S (foldL ls))) ∧ Below w.heap.size w w':=by
 obtain ⟨_,a,cap,rfl,hcap,hread⟩:=h
 have HR:=Lib.hid hread
 have HS:=Lib.hid hs
 have HLL:=Lib.hid hl
 have HTT:=Lib.hid hT
 have htl:=Lib.hid (Txt.tabs_lt hT)
 obtain ⟨N,hN⟩:∃ N,ls.length = N:=⟨_,rfl⟩
 have HN:=Lib.hid hN
 rw [List.length_map] at hcap ⊢
 rw [hN] at hn hcap
 rw [hN]
 clear hread hs hl hT hN
 go_enter Tryz.func100,Tryz.ntmps100
 go_wp2_with fail
 go_loopw [3,9] (fun s3 i u=>∃ k:Nat,k ≤ N ∧ i = .int .i64 k ∧ Hid (u.ownsRow w.heap.size 9 1 s3 (partsL (ls.take k)).length (((partsL (ls.take k)).map S).map Value.string)) ∧ Hid (Below w.heap.size w u)) (fun _ i _=>N - (intOf i).toNat)
 case atStart=>exact ⟨0,by omega,rfl,World.ownsRow_nil w _ _ 1,Below.refl _ _⟩
 case round =>
  obtain ⟨k,hk,rfl,HOWN,HBK⟩:=hrel
  obtain ⟨oa,ocap,eo,_⟩:=own_shape HOWN.out
  obtain ⟨m,hm⟩:∃ m,(partsL (ls.take k)).length = m:=⟨_,rfl⟩
  rw [hm] at eo
  subst eo
  have hml:m ≤ k:=by
   rw [← hm]
   exact Nat.le_trans (parts_len _) (by rw [List.length_take]; omega)
  have HM:=Lib.hid hm
  clear hm
  by_cases hlt:k < N
  ·obtain ⟨g,off,rfl,hat⟩:=HR.out (by rw [List.length_map,HN.out]; omega)
   have hkl:k < ls.length:=by rw [HN.out]; exact hlt
   have hc:=hat k (by rw [List.length_map]; exact hkl)
   rw [map_getD ls hkl] at hc
   obtain ⟨x,hx⟩:∃ x,ls.getD k [] = x:=⟨_,rfl⟩
   have hxl:x.length ≤ 9223372036854775807:=by
    rw [← hx]
    exact HS.out _ (by simp [List.getD,List.getElem?_eq_getElem hkl])
   have htk:=take_one hkl
   rw [hx] at hc htk
   rw [← HBK.out.cell (Txt.lt_cell hc)] at hc
   have k0:(0:Int) ≤ k:=by omega
   have k1:(k:Int) < N:=by omega
   have ct:=Txt.trim_any (S x) wr (by rw [S_size]; exact hxl) (Txt.tabs_below HTT.out HBK.out htl.out)
   rw [S_data] at ct
   have CT:=Lib.hid ct
   have HTK:=Lib.hid htk
   have hps:=parts_snoc (ls.take k) x
   rw [← htk] at hps
   have HPS:=Lib.hid hps
   clear hat hx ct htk hps hkl
   go_wp2_with fail
   refine CT.out.mono ?_
   rintro e w2 ⟨t,rfl,ht,b2⟩
   have HB2:=Lib.hid (HBK.out.trans (b2.mono HBK.out.size))
   have HO2:=Lib.hid (Own.owns_below HOWN.out b2)
   have hne:=neq_empty t
   rw [ht] at hne
   have HT2:=Lib.hid (S_of ht)
   clear ht b2
   by_cases hem:trimL x = []
   ·rw [decide_eq_true hem] at hne
    have hps:=HPS.out
    rw [if_pos hem] at hps
    have hown2:=HO2.out
    rw [← hps] at hown2
    have HOWN2:=Lib.hid hown2
    rw [← hps] at HM
    have hmm:=HM.out
    rw [hmm] at HOWN2
    have HMM:=Lib.hid hmm
    clear hem hps hown2 hmm
    go_wp2_with fail
    refine ⟨⟨k + 1,by omega,by go_num,by rw [HMM.out]; exact HOWN2,HB2⟩,by simp [intOf]; omega⟩
   ·rw [decide_eq_false hem] at hne
    have hps:=HPS.out
    rw [if_neg hem] at hps
    have HPS2:=Lib.hid hps
    obtain ⟨w3,hw3⟩:∃ w3,w2.alloc (.cells #[.string t] 9) = w3:=⟨_,rfl⟩
    have hb3:Below w2.heap.size w2 w3:=by rw [← hw3]; exact (Below.refl _ _).alloc (Nat.le_refl _) _
    have hcell:w3.cell? ⟨w2.heap.size,0,none⟩ = some (.string t):=by rw [← hw3]; exact (Blk.Is.new w2 9 #[.string t]).at rfl
    have ho3:=Own.owns_below HO2.out hb3
    have HO3:=Lib.hid ho3
    have HCELL:=Lib.hid hcell
    have HB3:=Lib.hid (HB2.out.trans (hb3.mono HB2.out.size))
    have HW3:=Lib.hid hw3
    clear hem hps hw3 hb3 hcell ho3
    go_wp2_with (at_builtin; rw [HW3.out]; refine Txt.append_text rfl (.tmp 17) (.tmp 19) rfl w.heap.size (.slice oa m ocap) ((partsL (ls.take k)).map S) rfl (by have:=HO3.out; rw [List.length_map]; rw [HM.out] at this ⊢; exact this) ⟨w2.heap.size,0,none⟩ 1 rfl t HCELL.out (by rw [List.length_map,HM.out]; omega) HB3.out.size ?_; intro v' w4 h4 h5; simp only [List.length_append,List.length_map,List.length_singleton] at h4; rw [HM.out] at h4; obtain ⟨a4,c4,rfl,_⟩:=own_shape h4; have hb4:=Own.below_grown HB3.out (by have:=HO3.out; rw [HM.out] at this; exact this) h5 HB3.out.size; have H4:=Lib.hid h4; have HB4:=Lib.hid hb4; clear h4 h5 hb4)
    refine ⟨⟨k + 1,by omega,by go_num,?_,HB4⟩,by simp [intOf]; omega⟩
    have e1:(partsL (ls.take (k + 1))).length = m + 1:=by rw [HPS2.out,List.length_append,HM.out]; rfl
    have e2:((partsL (ls.take (k + 1))).map S).map Value.string = ((partsL (ls.take k)).map S ++ [t]).map Value.string:=by rw [HPS2.out,HT2.out]; simp
    rw [e1,e2]
    exact H4
  ·obtain rfl:k = N:=by omega
   have hown:=HOWN.out
   rw [List.take_of_length_le (by rw [HN.out]; exact Nat.le_refl _)] at hown
   have hm2:=HM.out
   rw [List.take_of_length_le (by rw [HN.out]; exact Nat.le_refl _)] at hm2
   have cj:=join_any w.heap.size (.slice oa m ocap) (partsL ls) wr hown (by rw [hm2]; omega) HLL.out
   have CJ:=Lib.hid cj
   clear hown hm2 cj
   go_wp2_with fail
   refine CJ.out.mono ?_
   rintro e w9 ⟨rfl,b9⟩
   have HB9:=Lib.hid (HBK.out.trans (b9.mono HBK.out.size))
   clear b9
   go_wp2_with fail
   go_ret
   exact ⟨rfl,HB9.out⟩
def GetR (fs:List Fld) (nm:Bs) (t:Bs) (ok:Bool):Prop :=
 (ok = false ∧ t = [] ∧ ∀ i,i < fs.length → sameB (fs.getD i ([],[])).1 nm = false) ∨
 ∃ i,i < fs.length ∧ ok = true ∧ t = foldL (fs.getD i ([],[])).2 ∧ sameB (fs.getD i ([],[])).1 nm = true ∧ ∀ j,j < i → sameB (fs.getD j ([],[])).1 nm = false
theorem GetR.uniq {fs:List Fld} {nm t t':Bs} {ok ok':Bool} (h:GetR fs nm t ok) (h':GetR fs nm t' ok'):t = t' ∧ ok = ok':=by
 rcases h with ⟨rfl,rfl,h1⟩ | ⟨i,h1,rfl,rfl,h2,h3⟩
 ·rcases h' with ⟨rfl,rfl,_⟩ | ⟨j,k1,_,_,k2,_⟩
  ·exact ⟨rfl,rfl⟩
  ·rw [h1 j k1] at k2; cases k2
 ·rcases h' with ⟨_,_,k1⟩ | ⟨j,k1,rfl,rfl,k2,k3⟩
  ·rw [k1 i h1] at h2; cases h2
  ·have:i = j:=by
    rcases Nat.lt_trichotomy i j with hlt | he | hlt
    ·have:=k3 i hlt; rw [h2] at this; cases this
    ·exact he
    ·have:=h3 j hlt; rw [k2] at this; cases this
   subst this
   exact ⟨rfl,rfl⟩
end Stz
end Go.Proofs.YthmpepnikmdjpaaGreatDoor
namespace Go.Proofs.YthmpepnikmdjpaaGreatDoor
open Go.RowKit
set_option linter.unusedSimpArgs false
set_option linter.unusedVariables false
namespace Rc
open Ver (Bs li S sameV)
open Rl (At Pv may nmB isV pvA)
open Va (Vl rd wrT knd)
open Stz (Fld Sz sameB sameS foldL PR)
structure Pk where
 nm:Bs
 vs:Bs
 pre:List (List At)
 dep:List (List At)
 rcm:List (List At)
 con:List At
 brk:List At
 prv:List Pv
 ess:Bool
structure En where
 pk:Pk
 cfg:Bool
 hld:Bool
def nPk:Pk:=⟨[],[],[],[],[],[],[],[],false⟩
def nEn:En:=⟨nPk,false,false⟩
/-! ### which may be -/
def mayC (l:List (List At)):Int :=
 if l.any (fun c=>decide (6 < c.length)) = true then 12
 else if 12 < l.length then 12
 else if l.all (fun c=>decide (0 < c.length) && c.all may) = true then 0 else 3
def mayA (l:List At):Int:=if 12 < l.length then 12 else if l.all may = true then 0 else 3
def mayPv (p:Pv):Bool:=may (pvA p)
def mayP (l:List Pv):Int:=if 12 < l.length then 12 else if l.all mayPv = true then 0 else 3
def orI:List Int → Int
 | []=>0
 | x :: r=>if x ≠ 0 then x else orI r
def mayK (p:Pk):Int:=if (nmB p.nm && isV p.vs) = true then orI [mayC p.pre,mayC p.dep,mayC p.rcm,mayA p.con,mayA p.brk,mayP p.prv] else 3
def eachK (l:List Pk):Int:=orI (l.map mayK)
def again (p q:Pk):Bool:=decide (p.nm = q.nm) && sameV p.vs q.vs
def twice (l:List Pk):Bool:=(List.range l.length).any fun i=>(l.take i).any (again (l.getD i nPk))
def nmsOf:List Pk → List Bs → List Bs
 | [],ns=>ns
 | p :: r,ns=>nmsOf r (if p.nm ∈ ns then ns else ns ++ [p.nm])
def mayAll (l:List Pk):Int :=
 if 24 < l.length then 12 else if eachK l ≠ 0 then eachK l else if twice l = true then 4 else if 10 < (nmsOf l []).length then 12 else 0
def geB (a b:Bs):Bool:=!(Go.Op.bytesLess (S a).toList (S b).toList)
def falls (l:List En):Bool:=(List.range l.length).any fun i=>decide (0 < i) && geB (l.getD (i - 1) nEn).pk.nm (l.getD i nEn).pk.nm
def mayEn (l:List En):Int :=
 if 10 < l.length then 12 else if eachK (l.map En.pk) ≠ 0 then eachK (l.map En.pk) else if falls l = true then 4 else 0
/-! ### what the fields have -/
abbrev Vls:=Nat → Vl
def nms:List Bs:=[[80,97,99,107,97,103,101],[86,101,114,115,105,111,110],[69,115,115,101,110,116,105,97,108],[80,114,101,45,68,101,112,101,110,100,115],[68,101,112,101,110,100,115],[82,101,99,111,109,109,101,110,100,115],[67,111,110,102,108,105,99,116,115],[66,114,101,97,107,115],[80,114,111,118,105,100,101,115],[83,116,97,116,101],[72,111,108,100]]
def nmAt (i:Nat):Bs:=nms.getD i []
def isNo:Vl → Bool
 | .none=>true
 | _=>false
def no:Vls:=fun _=>.none
def keepN (xs:Vls) (nm:Bs) (x:Vl) (k:Nat):Vls:=fun i=>if i < k ∧ sameB nm (nmAt i) = true ∧ isNo (xs i) = true then x else xs i
def keep (xs:Vls) (nm:Bs) (x:Vl):Vls:=keepN xs nm x 11
def pkOf (xs:Vls):Pk:=⟨li (xs 0).txt,li (xs 1).txt,(xs 3).cls,(xs 4).cls,(xs 5).cls,(xs 6).ats,(xs 7).ats,(xs 8).pvs,(xs 2).ye⟩
def most:Int:=9223372036854775807
def furth (line:Int) (n:Nat):Int:=if most - (n:Int) < line then most else line + (n:Int)
def rdV (nm t:ByteArray):Except Int Vl:=rd (knd nm) t
def rdF (rf:ByteArray → ByteArray → Except Int Vl):Int → Vls → List Fld → Except (Int × Int) Vls
 | _,xs,[]=>.ok xs
 | line,xs,f :: r=>match rf (S f.1) (S (foldL f.2)) with
  | .error e=>.error (e,line)
  | .ok x=>rdF rf (furth line f.2.length) (keep xs f.1 x) r
def rdS (rf:ByteArray → ByteArray → Except Int Vl) (must:List Nat) (s:Sz):Except (Int × Int) Vls:=match rdF rf s.1 no s.2 with
 | .error p=>.error p
 | .ok xs=>if must.any (fun i=>isNo (xs i)) = true then .error (5,s.1) else .ok xs
def onOk {α β ε:Type} (f:α → β):Except ε α → Except ε β
 | .error e=>.error e
 | .ok x=>.ok (f x)
def ofS (s:Sz):Except (Int × Int) Pk:=onOk pkOf (rdS rdV [0,1] s)
def each {α β ε:Type} (f:α → Except ε β):List α → Except ε (List β)
 | []=>.ok []
 | x :: r=>match f x with
  | .error e=>.error e
  | .ok y=>match each f r with
   | .error e=>.error e
   | .ok ys=>.ok (y :: ys)
def whl {β:Type} (of:Sz → Except (Int × Int) β) (my:List β → Int) (l:List Sz):Except (Int × Int) (List β):=match each of l with
 | .error p=>.error p
 | .ok ys=>if my ys ≠ 0 then .error (my ys,0) else .ok ys
def Told {β:Type} (of:Sz → Except (Int × Int) β) (my:List β → Int) (s:ByteArray) (o:Except (Int × Int) (List β)):Prop :=
 ∃ l er n,PR s l er n ∧ ((er ≠ 0 ∧ o = .error ((er:Nat),(n:Nat))) ∨ (er = 0 ∧ o = whl of my l))
theorem Told.uniq {β:Type} {of:Sz → Except (Int × Int) β} {my:List β → Int} {s:ByteArray} {o o':Except (Int × Int) (List β)} (h:Told of my s o) (h':Told of my s o'):o = o':=by
 obtain ⟨l,er,n,p,q⟩:=h
 obtain ⟨l',er',n',p',q'⟩:=h'
 obtain ⟨rfl,rfl,rfl⟩:=p.uniq p'
 rcases q with ⟨a,rfl⟩ | ⟨a,rfl⟩ <;> rcases q' with ⟨b,rfl⟩ | ⟨b,rfl⟩
 ·rfl
 ·exact absurd b a
 ·exact absurd a b
 ·rfl
end Rc
end Go.Proofs.YthmpepnikmdjpaaGreatDoor
namespace Go.Proofs.YthmpepnikmdjpaaGreatDoor
open Go.RowKit
set_option linter.unusedSimpArgs false
set_option linter.unusedVariables false
namespace Va
open Ver (Bs li li_len li_drop S S_self S_size S_li)
open Rl (At Pv Ats Pvs Clss Cls Vars LimA LimP LimC text atoms provs pvA wrt wCl wAt may whole rdC rdA rdP atom nmB isV items items_all whole_ok)
open Txt (b)
/-! ### counts -/
theorem val_pos {s:ByteArray} (h0:b s 0 ≠ 48) (hd:Txt.dgt (b s 0) = true):∀ i,1 ≤ Txt.valP s (i + 1)
 | 0=>by
  have h:48 ≤ b s 0:=by unfold Txt.dgt at hd; simp at hd; omega
  simp only [Txt.valP]; omega
 | i + 1=>by
  have:=val_pos h0 hd i
  rw [Txt.valP]; omega
theorem dec_val {s:ByteArray} (hd:∀ j,j < s.size → Txt.dgt (b s j) = true) (h0:1 < s.size → b s 0 ≠ 48):∀ i,i + 1 ≤ s.size → Lib.decDigits (Txt.valP s (i + 1)) = (li s).take (i + 1)
 | 0,hi=>by
  obtain ⟨c,hc,hb⟩:=li_drop s 0 (by omega)
  rw [List.drop_zero] at hc
  have h:=hd 0 (by omega)
  have h1:48 ≤ b s 0 ∧ b s 0 ≤ 57:=by unfold Txt.dgt at h; simp at h; omega
  have hv:Txt.valP s 1 = b s 0 - 48:=by simp [Txt.valP]
  rw [hv,Lib.decDigits_one (by omega),hc,List.take_succ_cons,List.take_zero]
  congr 1
  rw [show 48 + (b s 0 - 48) = c.toNat by omega]
  exact UInt8.ofNat_toNat
 | i + 1,hi=>by
  have ih:=dec_val hd h0 i (by omega)
  have h:=hd (i + 1) (by omega)
  have h1:48 ≤ b s (i + 1) ∧ b s (i + 1) ≤ 57:=by unfold Txt.dgt at h; simp at h; omega
  have hp:=val_pos (h0 (by omega)) (hd 0 (by omega)) i
  have hv:Txt.valP s (i + 1 + 1) = 10 * Txt.valP s (i + 1) + (b s (i + 1) - 48):=by simp [Txt.valP]
  obtain ⟨c,hc,hb⟩:=li_drop s (i + 1) (by omega)
  rw [hv,Lib.decDigits,dif_neg (by omega),show (10 * Txt.valP s (i + 1) + (b s (i + 1) - 48)) / 10 = Txt.valP s (i + 1) by omega,show (10 * Txt.valP s (i + 1) + (b s (i + 1) - 48)) % 10 = b s (i + 1) - 48 by omega,ih]
  have hl:i + 1 < (li s).length:=by rw [li_len]; omega
  rw [List.take_succ_eq_append_getElem hl]
  congr 1
  rw [show 48 + (b s (i + 1) - 48) = c.toNat by omega,UInt8.ofNat_toNat]
  have e:((li s).drop (i + 1))[0]? = some c:=by rw [hc]; rfl
  rw [List.getElem?_drop,Nat.add_zero,List.getElem?_eq_getElem hl] at e
  injection e with e
  rw [e]
theorem itoa_back {s:ByteArray} (h:Txt.numOK s):(⟨(Lib.itoa (Txt.numOf s)).toArray⟩:ByteArray) = s:=by
 have h1:Txt.numOf s = Txt.valP s s.size:=by unfold Txt.numOf; rw [if_pos h]
 obtain ⟨⟨⟨ha,hb⟩,hc⟩,hd⟩:=h
 obtain ⟨k,hk⟩:∃ k,s.size = k + 1:=⟨s.size - 1,by omega⟩
 have e:=dec_val hd (fun h2 h3=>hc ⟨h2,h3⟩) k (by omega)
 rw [← hk,show (li s).take s.size = li s by rw [← li_len,List.take_length]] at e
 unfold Lib.itoa
 rw [if_neg (by omega),h1,Int.toNat_natCast,e]
/-! ### relations -/
theorem atom_may {l:Bs} {a:At} {r:Bs} (h:atom l = some (a,r)):may a = true:=by
 unfold Rl.atom at h
 repeat' split at h
 all_goals first
  | (cases h; done)
  | (injection h with h; injection h with h1 h2; subst h1; assumption)
theorem rdA_may {l:Bs} {a:At} {r:Bs} (h:rdA l = .ok (a,r)):may a = true:=by
 unfold Rl.rdA at h
 cases hq:atom l with
 | none=>rw [hq] at h; cases h
 | some q =>
  rw [hq] at h
  obtain ⟨x,y⟩:=q
  cases h
  exact atom_may hq
theorem txA_ne {a:At} (h:may a = true):wAt a ≠ []:=by
 unfold Rl.wAt
 rw [if_pos h]
 obtain ⟨n,r,v⟩:=a
 unfold Rl.may at h
 simp only [Bool.and_eq_true] at h
 unfold Rl.txA
 have hn:n ≠ []:=fun e=>by rw [e] at h; exact absurd h.1 (by decide)
 split <;> simp [hn]
theorem join_ne {sep:Bs}:∀ {l:List Bs},l ≠ [] → (∀ x ∈ l,x ≠ []) → Lib.join l sep ≠ []
 | [],h,_=>absurd rfl h
 | [x],_,hx=>by rw [Lib.join_one]; exact hx x (by simp)
 | x :: y :: l,_,hx=>by
  rw [show Lib.join (x :: y :: l) sep = x ++ (sep ++ Lib.join (y :: l) sep) from Rl.join_two _ _ _ _]
  have:=hx x (by simp)
  simp [this]
theorem wrt_ok {α:Type} {most:Nat} {sep:Bs} {f:α → Bs} {l:List α} (h0:l ≠ []) (h1:l.length ≤ most) (h2:∀ x ∈ l,f x ≠ []):wrt most sep f l ≠ []:=by
 unfold Rl.wrt
 rw [if_neg (by omega),if_neg]
 ·refine join_ne (by simpa using h0) fun y hy=>?_
  obtain ⟨x,hx,rfl⟩:=List.mem_map.1 hy
  exact h2 x hx
 ·rw [List.any_eq_true]
  rintro ⟨x,hx,hy⟩
  exact h2 x hx (List.isEmpty_iff.1 hy)
theorem items_ne {α:Type} {rdx:Bs → Except Int (α × Bs)} {c:UInt8}:∀ k l xs r,items rdx c k l = .ok (xs,r) → xs ≠ []
 | 0,l,xs,r,h=>by cases h
 | k + 1,l,xs,r,h=>by
  unfold Rl.items at h
  repeat' split at h
  all_goals first
   | (cases h; done)
   | (cases h; simp)
theorem lim_at {a:At} (h:may a = true):a.1.length ≤ 140737488351232 ∧ a.2.2.length ≤ 140737488351232:=by
 have:=Rl.may_sizes h
 omega
theorem whole_all {α:Type} {rdx:Bs → Except Int (α × Bs)} (P:α → Prop) (hP:∀ l x r,rdx l = .ok (x,r) → P x) {s:Bs} {xs:List α} (h:whole rdx s = .ok xs):∀ x ∈ xs,P x:=by
 rcases whole_ok h with rfl | ⟨r,h1⟩
 ·intro x hx; cases hx
 ·exact items_all P hP 12 _ _ _ h1
theorem clauses_read {s:Bs} {xs:List (List At)} (h:whole rdC s = .ok xs):(text xs ≠ [] ∨ xs = []) ∧ LimC xs:=by
 have hc:∀ c ∈ xs,(c ≠ [] ∧ c.length ≤ 6) ∧ ∀ a ∈ c,may a = true:=whole_all (fun c=>(c ≠ [] ∧ c.length ≤ 6) ∧ ∀ a ∈ c,may a = true) (fun l x r hx=>⟨⟨items_ne 6 l x r hx,Rl.items_len 6 l x r hx⟩,items_all (fun a=>may a = true) (fun l x r h=>rdA_may h) 6 l x r hx⟩) h
 refine ⟨?_,fun c hcm a ha=>lim_at ((hc c hcm).2 a ha)⟩
 by_cases h0:xs = []
 ·exact .inr h0
 ·refine .inl (wrt_ok h0 (Rl.whole_len h) fun c hcm=>?_)
  exact wrt_ok (hc c hcm).1.1 (hc c hcm).1.2 fun a ha=>txA_ne ((hc c hcm).2 a ha)
theorem atoms_read {s:Bs} {xs:List At} (h:whole rdA s = .ok xs):(atoms xs ≠ [] ∨ xs = []) ∧ LimA xs:=by
 have hc:∀ a ∈ xs,may a = true:=whole_all (fun a=>may a = true) (fun l x r hx=>rdA_may hx) h
 refine ⟨?_,fun a ha=>lim_at (hc a ha)⟩
 by_cases h0:xs = []
 ·exact .inr h0
 ·exact .inl (wrt_ok h0 (Rl.whole_len h) fun a ha=>txA_ne (hc a ha))
theorem rdP_may {l:Bs} {p:Pv} {r:Bs} (h:rdP l = .ok (p,r)):may (pvA p) = true:=by
 unfold Rl.rdP at h
 cases hq:rdA l with
 | error e=>rw [hq] at h; cases h
 | ok q =>
  rw [hq] at h
  obtain ⟨a,y⟩:=q
  have hm:=rdA_may hq
  simp only [Rl.prv] at h
  split at h
  ·rename_i hc
   cases h
   obtain ⟨n,rl,v⟩:=a
   simp only at hc
   unfold Rl.pvA
   unfold Rl.may at hm ⊢
   simp only [Bool.and_eq_true] at hm ⊢
   refine ⟨hm.1,?_⟩
   rcases hc with rfl | rfl
   ·have hv:v = []:=by have:=hm.2; simpa using this
    subst hv
    simp
   ·have h2:=hm.2
    simp only [show ¬ ((3:Int) = 0) by decide,if_false,Bool.and_eq_true] at h2
    by_cases hv:v = []
    ·subst hv
     exact absurd h2.2 (by decide)
    ·rw [if_neg hv]
     simp only [show ¬ ((3:Int) = 0) by decide,if_false,Bool.and_eq_true]
     exact h2
  ·cases h
theorem provs_read {s:Bs} {xs:List Pv} (h:whole rdP s = .ok xs):(provs xs ≠ [] ∨ xs = []) ∧ LimP xs:=by
 have hc:∀ p ∈ xs,may (pvA p) = true:=whole_all (fun p=>may (pvA p) = true) (fun l x r hx=>rdP_may hx) h
 refine ⟨?_,fun p hp=>lim_at (hc p hp)⟩
 by_cases h0:xs = []
 ·exact .inr h0
 ·exact .inl (wrt_ok h0 (Rl.whole_len h) fun p hp=>txA_ne (hc p hp))
theorem wrB_yes {l:Bs} {n:Nat} (h:l ≠ [] ∨ n = 0):wrB (S l) n = true:=by
 unfold wrB
 rcases h with h | h
 ·have:((S l).toList == []) = false:=beq_eq_false_iff_ne.2 fun e=>h (by rw [← S_li l]; rw [Lib.toList_data] at e; exact e)
  rw [this]; rfl
 ·rw [decide_eq_true h,Bool.or_true]
theorem nil_lim:LimC [] ∧ LimA [] ∧ LimP []:=⟨fun c hc=>(by cases hc),fun c hc=>(by cases hc),fun c hc=>(by cases hc)⟩
theorem back {k:Nat} {s:ByteArray} {x:Vl} (h:rd k s = .ok x):wrK x = true ∧ rd k (wrT x) = .ok x ∧ x.Lim:=by
 have n0:(Lit.int .i64 0).wf = true:=by decide
 have h':=h
 unfold rd at h
 split at h
 ·rename_i hk
  split at h
  ·cases h; exact ⟨rfl,h',nil_lim.1,nil_lim.2.1,nil_lim.2.2,n0⟩
  ·cases h
 split at h
 ·split at h
  ·cases h; exact ⟨rfl,h',nil_lim.1,nil_lim.2.1,nil_lim.2.2,n0⟩
  ·cases h
 split at h
 ·rename_i hk
  subst hk
  cases hq:whole rdC (li s) with
  | error e=>rw [hq] at h; cases h
  | ok xs =>
   rw [hq] at h
   cases h
   obtain ⟨h1,h2⟩:=clauses_read hq
   refine ⟨wrB_yes (h1.imp id fun e=>by rw [e]; rfl),?_,h2,nil_lim.2.1,nil_lim.2.2,n0⟩
   show asV .clauses (whole rdC (li (S (text xs)))) = _
   rw [S_li,Rl.text_own h1]; rfl
 split at h
 ·rename_i hk
  subst hk
  cases hq:whole rdA (li s) with
  | error e=>rw [hq] at h; cases h
  | ok xs =>
   rw [hq] at h
   cases h
   obtain ⟨h1,h2⟩:=atoms_read hq
   refine ⟨wrB_yes (h1.imp id fun e=>by rw [e]; rfl),?_,nil_lim.1,h2,nil_lim.2.2,n0⟩
   show asV .atoms (whole rdA (li (S (atoms xs)))) = _
   rw [S_li,Rl.atoms_own h1]; rfl
 split at h
 ·rename_i hk
  subst hk
  cases hq:whole rdP (li s) with
  | error e=>rw [hq] at h; cases h
  | ok xs =>
   rw [hq] at h
   cases h
   obtain ⟨h1,h2⟩:=provs_read hq
   refine ⟨wrB_yes (h1.imp id fun e=>by rw [e]; rfl),?_,nil_lim.1,nil_lim.2.1,h2,n0⟩
   show asV .provs (whole rdP (li (S (provs xs)))) = _
   rw [S_li,Rl.provs_own h1]; rfl
 split at h
 ·rename_i hk
  subst hk
  split at h
  ·cases h
   refine ⟨rfl,?_,nil_lim.1,nil_lim.2.1,nil_lim.2.2,n0⟩
   show (if yesT = yesT then Except.ok (Vl.yes true) else if yesT = noT then .ok (.yes false) else .error 3) = _
   rw [if_pos rfl]
  split at h
  ·cases h
   refine ⟨rfl,?_,nil_lim.1,nil_lim.2.1,nil_lim.2.2,n0⟩
   show (if noT = yesT then Except.ok (Vl.yes true) else if noT = noT then .ok (.yes false) else .error 3) = _
   rw [if_neg (by decide),if_pos rfl]
  ·cases h
 split at h
 ·rename_i hk
  subst hk
  split at h
  ·rename_i hn
   cases h
   have hb:=itoa_back hn
   refine ⟨rfl,?_,nil_lim.1,nil_lim.2.1,nil_lim.2.2,?_⟩
   ·show rd 6 (⟨(Lib.itoa (Txt.numOf s)).toArray⟩:ByteArray) = _
    rw [hb]; exact h'
   ·have hv:=Txt.valP_lt s s.size hn.2
    have hs:=hn.1.1.2
    have hp:10 ^ s.size ≤ 10 ^ 9:=Nat.pow_le_pow_right (by omega) hs
    have e:Txt.numOf s = Txt.valP s s.size:=by unfold Txt.numOf; rw [if_pos hn]
    have hlt:Txt.numOf s < 1000000000:=by rw [e]; omega
    show (Lit.int .i64 ((Txt.numOf s:Nat):Int)).wf = true
    simp [Lit.wf,IntKind.min,IntKind.max,IntKind.signed,IntKind.bits]
    omega
  ·cases h
 ·cases h; exact ⟨rfl,h',nil_lim.1,nil_lim.2.1,nil_lim.2.2,n0⟩
end Va
end Go.Proofs.YthmpepnikmdjpaaGreatDoor

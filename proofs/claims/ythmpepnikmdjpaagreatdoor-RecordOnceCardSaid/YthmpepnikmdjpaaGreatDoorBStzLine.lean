/-
What has been read, written and read again, is the same: the mathematics. A field's line; whether a field may have these texts.
-/
import Derived.Test.YthmpepnikmdjpaaGreatDoorBValRead
import Derived.Test.YthmpepnikmdjpaaGreatDoorBWordsGo
import Derived.Test.YthmpepnikmdjpaaGreatDoorBRelWriteA
import Derived.Test.YthmpepnikmdjpaaGreatDoorBRecDef
import Derived.Test.YthmpepnikmdjpaaGreatDoorBStzGood
namespace Go.Proofs.YthmpepnikmdjpaaGreatDoor
open Go.RowKit
set_option linter.unusedSimpArgs false
set_option linter.unusedVariables false
namespace Va
open Ver (Bs li li_len li_drop S S_self S_size S_li)
open Rl (At Pv Ats Pvs Clss Cls Vars LimA LimP LimC text atoms provs pvA wrt wCl wAt may whole rdC rdA rdP atom nmB isV items items_all whole_ok)
open Txt (b)
/-! ### counts -/
theorem val_pos {s:ByteArray} (h0:b s 0 ≠ 48) (hd:Txt.dgt (b s 0) = true):∀ i,1 ≤ Txt.valP s (i + 1)
 | 0=>by
  have h:48 ≤ b s 0:=by unfold Txt.dgt at hd; simp at hd; omega
  simp only [Txt.valP]; omega
 | i + 1=>by
  have:=val_pos h0 hd i
  rw [Txt.valP]; omega
theorem dec_val {s:ByteArray} (hd:∀ j,j < s.size → Txt.dgt (b s j) = true) (h0:1 < s.size → b s 0 ≠ 48):∀ i,i + 1 ≤ s.size → Lib.decDigits (Txt.valP s (i + 1)) = (li s).take (i + 1)
 | 0,hi=>by
  obtain ⟨c,hc,hb⟩:=li_drop s 0 (by omega)
  rw [List.drop_zero] at hc
  have h:=hd 0 (by omega)
  have h1:48 ≤ b s 0 ∧ b s 0 ≤ 57:=by unfold Txt.dgt at h; simp at h; omega
  have hv:Txt.valP s 1 = b s 0 - 48:=by simp [Txt.valP]
  rw [hv,Lib.decDigits_one (by omega),hc,List.take_succ_cons,List.take_zero]
  congr 1
  rw [show 48 + (b s 0 - 48) = c.toNat by omega]
  exact UInt8.ofNat_toNat
 | i + 1,hi=>by
  have ih:=dec_val hd h0 i (by omega)
  have h:=hd (i + 1) (by omega)
  have h1:48 ≤ b s (i + 1) ∧ b s (i + 1) ≤ 57:=by unfold Txt.dgt at h; simp at h; omega
  have hp:=val_pos (h0 (by omega)) (hd 0 (by omega)) i
  have hv:Txt.valP s (i + 1 + 1) = 10 * Txt.valP s (i + 1) + (b s (i + 1) - 48):=by simp [Txt.valP]
  obtain ⟨c,hc,hb⟩:=li_drop s (i + 1) (by omega)
  rw [hv,Lib.decDigits,dif_neg (by omega),show (10 * Txt.valP s (i + 1) + (b s (i + 1) - 48)) / 10 = Txt.valP s (i + 1) by omega,show (10 * Txt.valP s (i + 1) + (b s (i + 1) - 48)) % 10 = b s (i + 1) - 48 by omega,ih]
  have hl:i + 1 < (li s).length:=by rw [li_len]; omega
  rw [List.take_succ_eq_append_getElem hl]
  congr 1
  rw [show 48 + (b s (i + 1) - 48) = c.toNat by omega,UInt8.ofNat_toNat]
  have e:((li s).drop (i + 1))[0]? = some c:=by rw [hc]; rfl
  rw [List.getElem?_drop,Nat.add_zero,List.getElem?_eq_getElem hl] at e
  injection e with e
  rw [e]
theorem itoa_back {s:ByteArray} (h:Txt.numOK s):(⟨(Lib.itoa (Txt.numOf s)).toArray⟩:ByteArray) = s:=by
 have h1:Txt.numOf s = Txt.valP s s.size:=by unfold Txt.numOf; rw [if_pos h]
 obtain ⟨⟨⟨ha,hb⟩,hc⟩,hd⟩:=h
 obtain ⟨k,hk⟩:∃ k,s.size = k + 1:=⟨s.size - 1,by omega⟩
 have e:=dec_val hd (fun h2 h3=>hc ⟨h2,h3⟩) k (by omega)
 rw [← hk,show (li s).take s.size = li s by rw [← li_len,List.take_length]] at e
 unfold Lib.itoa
 rw [if_neg (by omega),h1,Int.toNat_natCast,e]
/-! ### relations -/
theorem atom_may {l:Bs} {a:At} {r:Bs} (h:atom l = some (a,r)):may a = true:=by
 unfold Rl.atom at h
 repeat' split at h
 all_goals first
  | (cases h; done)
  | (injection h with h; injection h with h1 h2; subst h1; assumption)
theorem rdA_may {l:Bs} {a:At} {r:Bs} (h:rdA l = .ok (a,r)):may a = true:=by
 unfold Rl.rdA at h
 cases hq:atom l with
 | none=>rw [hq] at h; cases h
 | some q =>
  rw [hq] at h
  obtain ⟨x,y⟩:=q
  cases h
  exact atom_may hq
theorem txA_ne {a:At} (h:may a = true):wAt a ≠ []:=by
 unfold Rl.wAt
 rw [if_pos h]
 obtain ⟨n,r,v⟩:=a
 unfold Rl.may at h
 simp only [Bool.and_eq_true] at h
 unfold Rl.txA
 have hn:n ≠ []:=fun e=>by rw [e] at h; exact absurd h.1 (by decide)
 split <;> simp [hn]
theorem join_ne {sep:Bs}:∀ {l:List Bs},l ≠ [] → (∀ x ∈ l,x ≠ []) → Lib.join l sep ≠ []
 | [],h,_=>absurd rfl h
 | [x],_,hx=>by rw [Lib.join_one]; exact hx x (by simp)
 | x :: y :: l,_,hx=>by
  rw [show Lib.join (x :: y :: l) sep = x ++ (sep ++ Lib.join (y :: l) sep) from Rl.join_two _ _ _ _]
  have:=hx x (by simp)
  simp [this]
theorem wrt_ok {α:Type} {most:Nat} {sep:Bs} {f:α → Bs} {l:List α} (h0:l ≠ []) (h1:l.length ≤ most) (h2:∀ x ∈ l,f x ≠ []):wrt most sep f l ≠ []:=by
 unfold Rl.wrt
 rw [if_neg (by omega),if_neg]
 ·refine join_ne (by simpa using h0) fun y hy=>?_
  obtain ⟨x,hx,rfl⟩:=List.mem_map.1 hy
  exact h2 x hx
 ·rw [List.any_eq_true]
  rintro ⟨x,hx,hy⟩
  exact h2 x hx (List.isEmpty_iff.1 hy)
theorem items_ne {α:Type} {rdx:Bs → Except Int (α × Bs)} {c:UInt8}:∀ k l xs r,items rdx c k l = .ok (xs,r) → xs ≠ []
 | 0,l,xs,r,h=>by cases h
 | k + 1,l,xs,r,h=>by
  unfold Rl.items at h
  repeat' split at h
  all_goals first
   | (cases h; done)
   | (cases h; simp)
theorem lim_at {a:At} (h:may a = true):a.1.length ≤ 140737488351232 ∧ a.2.2.length ≤ 140737488351232:=by
 have:=Rl.may_sizes h
 omega
theorem whole_all {α:Type} {rdx:Bs → Except Int (α × Bs)} (P:α → Prop) (hP:∀ l x r,rdx l = .ok (x,r) → P x) {s:Bs} {xs:List α} (h:whole rdx s = .ok xs):∀ x ∈ xs,P x:=by
 rcases whole_ok h with rfl | ⟨r,h1⟩
 ·intro x hx; cases hx
 ·exact items_all P hP 12 _ _ _ h1
theorem clauses_read {s:Bs} {xs:List (List At)} (h:whole rdC s = .ok xs):(text xs ≠ [] ∨ xs = []) ∧ LimC xs:=by
 have hc:∀ c ∈ xs,(c ≠ [] ∧ c.length ≤ 6) ∧ ∀ a ∈ c,may a = true:=whole_all (fun c=>(c ≠ [] ∧ c.length ≤ 6) ∧ ∀ a ∈ c,may a = true) (fun l x r hx=>⟨⟨items_ne 6 l x r hx,Rl.items_len 6 l x r hx⟩,items_all (fun a=>may a = true) (fun l x r h=>rdA_may h) 6 l x r hx⟩) h
 refine ⟨?_,fun c hcm a ha=>lim_at ((hc c hcm).2 a ha)⟩
 by_cases h0:xs = []
 ·exact .inr h0
 ·refine .inl (wrt_ok h0 (Rl.whole_len h) fun c hcm=>?_)
  exact wrt_ok (hc c hcm).1.1 (hc c hcm).1.2 fun a ha=>txA_ne ((hc c hcm).2 a ha)
theorem atoms_read {s:Bs} {xs:List At} (h:whole rdA s = .ok xs):(atoms xs ≠ [] ∨ xs = []) ∧ LimA xs:=by
 have hc:∀ a ∈ xs,may a = true:=whole_all (fun a=>may a = true) (fun l x r hx=>rdA_may hx) h
 refine ⟨?_,fun a ha=>lim_at (hc a ha)⟩
 by_cases h0:xs = []
 ·exact .inr h0
 ·exact .inl (wrt_ok h0 (Rl.whole_len h) fun a ha=>txA_ne (hc a ha))
theorem rdP_may {l:Bs} {p:Pv} {r:Bs} (h:rdP l = .ok (p,r)):may (pvA p) = true:=by
 unfold Rl.rdP at h
 cases hq:rdA l with
 | error e=>rw [hq] at h; cases h
 | ok q =>
  rw [hq] at h
  obtain ⟨a,y⟩:=q
  have hm:=rdA_may hq
  simp only [Rl.prv] at h
  split at h
  ·rename_i hc
   cases h
   obtain ⟨n,rl,v⟩:=a
   simp only at hc
   unfold Rl.pvA
   unfold Rl.may at hm ⊢
   simp only [Bool.and_eq_true] at hm ⊢
   refine ⟨hm.1,?_⟩
   rcases hc with rfl | rfl
   ·have hv:v = []:=by have:=hm.2; simpa using this
    subst hv
    simp
   ·have h2:=hm.2
    simp only [show ¬ ((3:Int) = 0) by decide,if_false,Bool.and_eq_true] at h2
    by_cases hv:v = []
    ·subst hv
     exact absurd h2.2 (by decide)
    ·rw [if_neg hv]
     simp only [show ¬ ((3:Int) = 0) by decide,if_false,Bool.and_eq_true]
     exact h2
  ·cases h
theorem provs_read {s:Bs} {xs:List Pv} (h:whole rdP s = .ok xs):(provs xs ≠ [] ∨ xs = []) ∧ LimP xs:=by
 have hc:∀ p ∈ xs,may (pvA p) = true:=whole_all (fun p=>may (pvA p) = true) (fun l x r hx=>rdP_may hx) h
 refine ⟨?_,fun p hp=>lim_at (hc p hp)⟩
 by_cases h0:xs = []
 ·exact .inr h0
 ·exact .inl (wrt_ok h0 (Rl.whole_len h) fun p hp=>txA_ne (hc p hp))
theorem wrB_yes {l:Bs} {n:Nat} (h:l ≠ [] ∨ n = 0):wrB (S l) n = true:=by
 unfold wrB
 rcases h with h | h
 ·have:((S l).toList == []) = false:=beq_eq_false_iff_ne.2 fun e=>h (by rw [← S_li l]; rw [Lib.toList_data] at e; exact e)
  rw [this]; rfl
 ·rw [decide_eq_true h,Bool.or_true]
theorem nil_lim:LimC [] ∧ LimA [] ∧ LimP []:=⟨fun c hc=>(by cases hc),fun c hc=>(by cases hc),fun c hc=>(by cases hc)⟩
theorem back {k:Nat} {s:ByteArray} {x:Vl} (h:rd k s = .ok x):wrK x = true ∧ rd k (wrT x) = .ok x ∧ x.Lim:=by
 have n0:(Lit.int .i64 0).wf = true:=by decide
 have h':=h
 unfold rd at h
 split at h
 ·rename_i hk
  split at h
  ·cases h; exact ⟨rfl,h',nil_lim.1,nil_lim.2.1,nil_lim.2.2,n0⟩
  ·cases h
 split at h
 ·split at h
  ·cases h; exact ⟨rfl,h',nil_lim.1,nil_lim.2.1,nil_lim.2.2,n0⟩
  ·cases h
 split at h
 ·rename_i hk
  subst hk
  cases hq:whole rdC (li s) with
  | error e=>rw [hq] at h; cases h
  | ok xs =>
   rw [hq] at h
   cases h
   obtain ⟨h1,h2⟩:=clauses_read hq
   refine ⟨wrB_yes (h1.imp id fun e=>by rw [e]; rfl),?_,h2,nil_lim.2.1,nil_lim.2.2,n0⟩
   show asV .clauses (whole rdC (li (S (text xs)))) = _
   rw [S_li,Rl.text_own h1]; rfl
 split at h
 ·rename_i hk
  subst hk
  cases hq:whole rdA (li s) with
  | error e=>rw [hq] at h; cases h
  | ok xs =>
   rw [hq] at h
   cases h
   obtain ⟨h1,h2⟩:=atoms_read hq
   refine ⟨wrB_yes (h1.imp id fun e=>by rw [e]; rfl),?_,nil_lim.1,h2,nil_lim.2.2,n0⟩
   show asV .atoms (whole rdA (li (S (atoms xs)))) = _
   rw [S_li,Rl.atoms_own h1]; rfl
 split at h
 ·rename_i hk
  subst hk
  cases hq:whole rdP (li s) with
  | error e=>rw [hq] at h; cases h
  | ok xs =>
   rw [hq] at h
   cases h
   obtain ⟨h1,h2⟩:=provs_read hq
   refine ⟨wrB_yes (h1.imp id fun e=>by rw [e]; rfl),?_,nil_lim.1,nil_lim.2.1,h2,n0⟩
   show asV .provs (whole rdP (li (S (provs xs)))) = _
   rw [S_li,Rl.provs_own h1]; rfl
 split at h
 ·rename_i hk
  subst hk
  split at h
  ·cases h
   refine ⟨rfl,?_,nil_lim.1,nil_lim.2.1,nil_lim.2.2,n0⟩
   show (if yesT = yesT then Except.ok (Vl.yes true) else if yesT = noT then .ok (.yes false) else .error 3) = _
   rw [if_pos rfl]
  split at h
  ·cases h
   refine ⟨rfl,?_,nil_lim.1,nil_lim.2.1,nil_lim.2.2,n0⟩
   show (if noT = yesT then Except.ok (Vl.yes true) else if noT = noT then .ok (.yes false) else .error 3) = _
   rw [if_neg (by decide),if_pos rfl]
  ·cases h
 split at h
 ·rename_i hk
  subst hk
  split at h
  ·rename_i hn
   cases h
   have hb:=itoa_back hn
   refine ⟨rfl,?_,nil_lim.1,nil_lim.2.1,nil_lim.2.2,?_⟩
   ·show rd 6 (⟨(Lib.itoa (Txt.numOf s)).toArray⟩:ByteArray) = _
    rw [hb]; exact h'
   ·have hv:=Txt.valP_lt s s.size hn.2
    have hs:=hn.1.1.2
    have hp:10 ^ s.size ≤ 10 ^ 9:=Nat.pow_le_pow_right (by omega) hs
    have e:Txt.numOf s = Txt.valP s s.size:=by unfold Txt.numOf; rw [if_pos hn]
    have hlt:Txt.numOf s < 1000000000:=by rw [e]; omega
    show (Lit.int .i64 ((Txt.numOf s:Nat):Int)).wf = true
    simp [Lit.wf,IntKind.min,IntKind.max,IntKind.signed,IntKind.bits]
    omega
  ·cases h
 ·cases h; exact ⟨rfl,h',nil_lim.1,nil_lim.2.1,nil_lim.2.2,n0⟩
theorem wrT_long {α:Type} {most m:Nat} {sep:Bs} {f:α → Bs} (l:List α) (h:∀ x,(f x).length ≤ m):(wrt most sep f l).length ≤ most * (m + sep.length):=by
 unfold Rl.wrt
 split
 ·simp
 ·split
  ·simp
  ·rename_i h0 _
   have:=Rl.join_len sep m (l.map f) fun l hl=>by
    obtain ⟨a,_,rfl⟩:=List.mem_map.1 hl
    exact h a
   rw [List.length_map] at this
   exact Nat.le_trans this (Nat.mul_le_mul_right _ (by omega))
end Va
end Go.Proofs.YthmpepnikmdjpaaGreatDoor
namespace Go.Proofs.YthmpepnikmdjpaaGreatDoor
open Go.RowKit
set_option linter.unusedSimpArgs false
set_option linter.unusedVariables false
namespace Stz
open Txt (trimL)
theorem S_app (a c:Bs):S a ++ S c = S (a ++ c):=S_of (by rw [ByteArray.data_append,Array.toList_append,S_data,S_data])
theorem first_nil (nm:Bs):S nm ++ ⟨#[58]⟩ = S (firstLine nm []):=S_app nm [58]
theorem first_some (nm:Bs) {x:Bs} (h:¬ x = []):S nm ++ ⟨#[58]⟩ ++ ⟨#[32]⟩ ++ S x = S (firstLine nm x):=by
 rw [show (⟨#[58]⟩:ByteArray) = S [58] from rfl,show (⟨#[32]⟩:ByteArray) = S [32] from rfl,S_app,S_app,S_app]
 unfold firstLine
 rw [if_neg h]
 simp
theorem next_some {x:Bs} (h:¬ x = []):(⟨#[32]⟩:ByteArray) ++ S x = S (nextLine x):=by
 rw [show (⟨#[32]⟩:ByteArray) = S [32] from rfl,S_app]
 unfold nextLine
 rw [if_neg h]
 rfl
set_option maxRecDepth 100000 in
set_option maxHeartbeats 4000000 in
theorem lineOf_any (nm:Bs) (u:Value) (ls:List Bs) (i:Nat) (w:World) (h:Txt.Texts w u (ls.map S)) (hi:i < ls.length) (hnm:nm.length ≤ 140737488351232) (hx:(ls.getD i []).length ≤ 140737488351232) :
  Calls Tryz.prog 221 #[.agg #[.string (S nm),u],.int .i64 i] w fun e w'=>e = .returned (.string (S (lineAt (nm,ls) i))) ∧ Below w.heap.size w w':=by
 obtain ⟨_,a,cap,rfl,hcap,hread⟩:=h
 obtain ⟨g,off,rfl,hat⟩:=hread (by rw [List.length_map]; omega)
 have hc:=hat i (by rw [List.length_map]; exact hi)
 rw [map_getD ls hi] at hc
 obtain ⟨x,hxx⟩:∃ x,ls.getD i [] = x:=⟨_,rfl⟩
 rw [hxx] at hc hx
 have hla:lineAt (nm,ls) i = if i = 0 then firstLine nm x else nextLine x:=by
  unfold lineAt
  rw [← hxx]
  split
  ·rename_i h; subst h; rfl
  ·rfl
 have HLA:=Lib.hid hla
 have hem:=is_empty (S x)
 rw [S_data] at hem
 clear hat hread hla hxx
 rw [List.length_map] at hcap ⊢
 obtain ⟨W,hW⟩:∃ W,w.alloc (.cells #[.string (S nm),.slice (some ⟨g,off,none⟩) ls.length cap] 43) = W:=⟨_,rfl⟩
 have hbW:Below w.heap.size w W:=by rw [← hW]; exact (Below.refl _ _).alloc (Nat.le_refl _) _
 have iW:Blk.Is W w.heap.size 43 #[.string (S nm),.slice (some ⟨g,off,none⟩) ls.length cap]:=by rw [← hW]; exact Blk.Is.new w _ _
 have c0:W.cell? ⟨w.heap.size,0,none⟩ = some (.string (S nm)):=iW.at rfl
 have c1:W.cell? ⟨w.heap.size,1,none⟩ = some (.slice (some ⟨g,off,none⟩) ls.length cap):=iW.at rfl
 rw [← hbW.cell (Txt.lt_cell hc)] at hc
 have HBW:=Lib.hid hbW
 have i0:(0:Int) ≤ i:=by omega
 have i1:(i:Int) < ls.length:=by omega
 have hsn:=S_size nm
 have hsx:=S_size x
 clear hbW iW
 go_enter Tryz.func221,Tryz.ntmps221
 by_cases h0:i = 0
 ·rw [if_pos h0] at HLA
  have h0':¬ (0:Int) < i:=by omega
  clear h0
  by_cases hxe:x = []
  ·rw [decide_eq_true hxe] at hem
   have HXE:=Lib.hid hxe
   clear hxe
   go_wp2_with fail
   go_ret
   rw [HLA.out,HXE.out]
   exact ⟨by rw [← first_nil]; rfl,HBW.out⟩
  ·rw [decide_eq_false hxe] at hem
   have HXE:=Lib.hid hxe
   clear hxe
   go_wp2_with fail
   go_ret
   rw [HLA.out]
   exact ⟨by rw [← first_some nm HXE.out]; rfl,HBW.out⟩
 ·rw [if_neg h0] at HLA
  have h0':(0:Int) < i:=by omega
  clear h0
  by_cases hxe:x = []
  ·rw [decide_eq_true hxe] at hem
   have HXE:=Lib.hid hxe
   clear hxe
   go_wp2_with fail
   go_ret
   rw [HLA.out,HXE.out]
   exact ⟨rfl,HBW.out⟩
  ·rw [decide_eq_false hxe] at hem
   have HXE:=Lib.hid hxe
   clear hxe
   go_wp2_with fail
   go_ret
   rw [HLA.out]
   exact ⟨by rw [← next_some HXE.out]; rfl,HBW.out⟩
def textAt (ls:List Bs) (i:Nat):Bool:=if i = 0 then firstOK (ls.getD i []) else nextOK (ls.getD i [])
theorem texts_all {ls:List Bs} (h0:0 < ls.length) (h:∀ i,i < ls.length → textAt ls i = true):textsOK ls = true:=by
 cases ls with
 | nil=>simp at h0
 | cons x r =>
  simp only [textsOK,Bool.and_eq_true,List.all_eq_true]
  refine ⟨h 0 (by simp),fun y hy=>?_⟩
  obtain ⟨i,hi,rfl⟩:=List.mem_iff_getElem.1 hy
  have:=h (i + 1) (by simp; omega)
  simpa [textAt,List.getD,hi] using this
theorem texts_bad {ls:List Bs} {i:Nat} (hi:i < ls.length) (h:textAt ls i = false):textsOK ls = false:=by
 cases ls with
 | nil=>simp at hi
 | cons x r =>
  cases i with
  | zero =>
   have h':firstOK x = false:=h
   simp [textsOK,h']
  | succ i =>
   have hi':i < r.length:=by simpa using hi
   have h':nextOK (r[i]) = false:=by simpa [textAt,List.getD,hi'] using h
   simp only [textsOK]
   rw [Bool.and_eq_false_iff]
   right
   rw [List.all_eq_false]
   exact ⟨r[i],List.getElem_mem _,by rw [h']; simp⟩
theorem str_eq (a c:ByteArray):(a.toList == c.toList) = decide (a.data.toList = c.data.toList):=by
 rw [Lib.toList_data,Lib.toList_data]
 by_cases h:a.data.toList = c.data.toList
 ·rw [h]; simp
 ·rw [decide_eq_false h,beq_eq_false_iff_ne]; exact h
set_option maxRecDepth 100000 in
set_option maxHeartbeats 4000000 in
theorem mayLines_any (v:Value) (ls:List Bs) (w:World) (h:Txt.Texts w v (ls.map S)) (hs:∀ x ∈ ls,x.length ≤ 9223372036854775807) (hT:Lib.Utf8Tabs 3 4 w) :
  Calls Tryz.prog 260 #[v] w fun e w'=>e = .returned (.bool (textsOK ls)) ∧ Below w.heap.size w w':=by
 obtain ⟨hmx,a,cap,rfl,hcap,hread⟩:=h
 have HR:=Lib.hid hread
 have HS:=Lib.hid hs
 have HTT:=Lib.hid hT
 have htl:=Lib.hid (Txt.tabs_lt hT)
 obtain ⟨N,hN⟩:∃ N,ls.length = N:=⟨_,rfl⟩
 have HN:=Lib.hid hN
 rw [List.length_map] at hcap hmx ⊢
 rw [hN] at hcap hmx
 rw [hN]
 obtain ⟨G,hG⟩:∃ G,textsOK ls = G:=⟨_,rfl⟩
 have HG:=Lib.hid hG
 rw [hG]
 clear hread hs hT hN hG
 go_enter Tryz.func260,Tryz.ntmps260
 go_wp2_with fail
 go_loopw [8] (fun i u=>∃ k:Nat,k ≤ N ∧ i = .int .i64 k ∧ Hid (∀ j,j < k → textAt ls j = true) ∧ Hid (Below w.heap.size w u)) (fun i _=>N - (intOf i).toNat)
 case atStart=>exact ⟨0,by omega,rfl,Lib.hid (fun j hj=>absurd hj (by omega)),Lib.hid (Below.refl _ _)⟩
 case round =>
  obtain ⟨k,hk,rfl,HP,HB⟩:=hrel
  by_cases hlt:k < N
  ·obtain ⟨g,off,rfl,hat⟩:=HR.out (by rw [List.length_map,HN.out]; omega)
   have hkl:k < ls.length:=by rw [HN.out]; exact hlt
   have hc:=hat k (by rw [List.length_map]; exact hkl)
   rw [map_getD ls hkl] at hc
   obtain ⟨x,hx⟩:∃ x,ls.getD k [] = x:=⟨_,rfl⟩
   have hxl:x.length ≤ 9223372036854775807:=by
    rw [← hx]
    exact HS.out _ (by simp [List.getD,List.getElem?_eq_getElem hkl])
   rw [hx] at hc
   rw [← HB.out.cell (Txt.lt_cell hc)] at hc
   have k0:(0:Int) ≤ k:=by omega
   have k1:(k:Int) < N:=by omega
   have hTw:=Txt.tabs_below HTT.out HB.out htl.out
   have cg:=Txt.good_any (S x) wr (by rw [S_size]; exact hxl) hTw
   have HKL:=Lib.hid hkl
   have HX:=Lib.hid hx
   clear hat hx hTw hkl
   by_cases hgd:goodL x
   ·have hge:Txt.good (S x) = -1:=hgd
    rw [hge] at cg
    have CG:=Lib.hid cg
    have HGD:=Lib.hid hgd
    clear cg hge hgd
    by_cases hk0:k = 0
    ·have HK0:=Lib.hid hk0
     have hb0:((k:Int) == 0) = true:=by subst hk0; rfl
     clear hk0
     go_wp2_with fail
     refine CG.out.mono ?_
     rintro e w2 ⟨rfl,b2⟩
     have HB2:=Lib.hid (HB.out.trans (b2.mono HB.out.size))
     clear b2 CG
     go_wp2_with fail
     refine (first_any (S x) w2 (by rw [S_size]; exact hxl) (Txt.tabs_below HTT.out HB2.out htl.out)).mono ?_
     rintro e w3 ⟨t,rfl,ht,b3⟩
     have HB3:=Lib.hid (HB2.out.trans (b3.mono HB2.out.size))
     have hse:=str_eq t (S x)
     rw [S_data] at ht hse
     rw [ht] at hse
     clear b3 HB2 ht
     by_cases hsame:trimL x = x
     ·rw [decide_eq_true hsame] at hse
      have HSM:=Lib.hid hsame
      clear hsame
      go_wp2_with fail
      refine ⟨⟨k + 1,by omega,by go_num,Lib.hid (fun j hj=>?_),HB3⟩,by simp [intOf]; omega⟩
      rcases Nat.lt_or_ge j k with h | h
      ·exact HP.out j h
      ·obtain rfl:j = k:=by omega
       unfold textAt
       rw [if_pos HK0.out,HX.out]
       simp only [firstOK,Bool.and_eq_true,decide_eq_true_eq]
       exact ⟨HGD.out,by rw [HSM.out]; simp⟩
     ·rw [decide_eq_false hsame] at hse
      have HSM:=Lib.hid hsame
      clear hsame
      go_wp2_with fail
      go_ret
      refine ⟨?_,HB3.out⟩
      rw [← HG.out,texts_bad HKL.out ?_]
      ·rfl
      ·unfold textAt
       rw [if_pos HK0.out,HX.out]
       simp only [firstOK,Bool.and_eq_false_iff]
       exact .inr (by rw [beq_eq_false_iff_ne]; exact HSM.out)
    ·have HK0:=Lib.hid hk0
     have hb0:((k:Int) == 0) = false:=by
      rw [beq_eq_false_iff_ne]
      omega
     clear hk0
     go_wp2_with fail
     refine CG.out.mono ?_
     rintro e w2 ⟨rfl,b2⟩
     have HB2:=Lib.hid (HB.out.trans (b2.mono HB.out.size))
     clear b2 CG
     go_wp2_with fail
     refine (further_any (S x) w2 (by rw [S_size]; exact hxl)).mono ?_
     rintro e w3 ⟨t,rfl,ht,b3⟩
     have HB3:=Lib.hid (HB2.out.trans (b3.mono HB2.out.size))
     have hse:=str_eq t (S x)
     rw [S_data] at ht hse
     rw [ht] at hse
     clear b3 HB2 ht
     by_cases hsame:further x = x
     ·rw [decide_eq_true hsame] at hse
      have HSM:=Lib.hid hsame
      clear hsame
      go_wp2_with fail
      refine ⟨⟨k + 1,by omega,by go_num,Lib.hid (fun j hj=>?_),HB3⟩,by simp [intOf]; omega⟩
      rcases Nat.lt_or_ge j k with h | h
      ·exact HP.out j h
      ·obtain rfl:j = k:=by omega
       unfold textAt
       rw [if_neg HK0.out,HX.out]
       simp only [nextOK,Bool.and_eq_true,decide_eq_true_eq]
       exact ⟨HGD.out,by rw [HSM.out]; simp⟩
     ·rw [decide_eq_false hsame] at hse
      have HSM:=Lib.hid hsame
      clear hsame
      go_wp2_with fail
      go_ret
      refine ⟨?_,HB3.out⟩
      rw [← HG.out,texts_bad HKL.out ?_]
      ·rfl
      ·unfold textAt
       rw [if_neg HK0.out,HX.out]
       simp only [nextOK,Bool.and_eq_false_iff]
       exact .inr (by rw [beq_eq_false_iff_ne]; exact HSM.out)
   ·have hge:¬ Txt.good (S x) = -1:=hgd
    have hg0:0 ≤ Txt.good (S x):=by
     rcases Txt.good_ge (S x) with h | h
     ·exact absurd h hge
     ·exact h
    have hg1:¬ Txt.good (S x) < 0:=by omega
    have CG:=Lib.hid cg
    have HGD:=Lib.hid hgd
    clear hge hgd cg
    cases hb0:((k:Int) == 0)
    all_goals
     go_wp2_with fail
     refine CG.out.mono ?_
     rintro e w2 ⟨rfl,b2⟩
     have HB2:=Lib.hid (HB.out.trans (b2.mono HB.out.size))
     clear b2 CG
     go_wp2_with fail
     go_ret
     refine ⟨?_,HB2.out⟩
     rw [← HG.out,texts_bad HKL.out ?_]
     ·rfl
     ·unfold textAt
      rw [HX.out]
      split <;> simp [firstOK,nextOK,HGD.out]
  ·obtain rfl:k = N:=by omega
   go_wp2_with fail
   go_ret
   refine ⟨?_,HB.out⟩
   rw [← HG.out]
   by_cases h0:0 < k
   ·rw [texts_all (by rw [HN.out]; exact h0) (fun i hi=>HP.out i (by rw [HN.out] at hi; exact hi))]
    show Ending.returned (Value.bool (decide (0 < k))) = _
    rw [decide_eq_true h0]
   ·have hl0:ls.length = 0:=by rw [HN.out]; omega
    obtain rfl:ls = []:=List.length_eq_zero_iff.1 hl0
    show Ending.returned (Value.bool (decide (0 < k))) = _
    rw [decide_eq_false h0]
    rfl
end Stz
end Go.Proofs.YthmpepnikmdjpaaGreatDoor

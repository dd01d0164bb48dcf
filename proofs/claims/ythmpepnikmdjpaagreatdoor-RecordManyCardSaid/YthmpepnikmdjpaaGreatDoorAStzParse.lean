/-
The reader: one more line. Two texts side by side: their bytes, their characters, and where the first place is that is no good text. Stanzas as lists of bytes: pieces of good lines are good; what is read may be printed; a print's lines. Parse: its contract.
-/
import Derived.Test.YthmpepnikmdjpaaGreatDoorAStzField
import Derived.Test.YthmpepnikmdjpaaGreatDoorATextAwake
import Derived.Laws.Concat
import Derived.Test.YthmpepnikmdjpaaGreatDoorAWordsK
namespace Go.Proofs.YthmpepnikmdjpaaGreatDoor
open Go.RowKit
set_option linter.unusedSimpArgs false
set_option linter.unusedVariables false
namespace Stz
open Txt (b b_eq b_lt wht trimL trimRight trimLeft)
def Fit (m:Nat) (z:Zip):Prop:=z.done.length ≤ 200 ∧ (∀ s ∈ z.done,s.2.length ≤ 40 ∧ ∀ g ∈ s.2,g.1.length ≤ 1000000 ∧ g.2.length ≤ m) ∧ ∀ k fs f,z.cur = some (k,fs,f) → z.done.length < 200 ∧ fs.length + 1 ≤ 40 ∧ ∀ g ∈ fs ++ [f],g.1.length ≤ 1000000 ∧ g.2.length ≤ m
def TakePost (p B:Nat) (z:Zip) (x:Bs) (n:Int) (w:World) (e:Ending) (w':World):Prop :=
 Below B w w' ∧ ((∃ c,take z x n = .error c ∧ e = .returned (.int .i64 (c:Nat))) ∨ ∃ z',take z x n = .ok z' ∧ e = .returned (.int .i64 0) ∧ RdAt w' p B z')
theorem prefix_hash (l:Bs):Lib.hasPrefix l [35] = decide (l.head? = some 35):=by
 cases l with
 | nil=>rfl
 | cons c l =>
  show List.isPrefixOf [35] (c :: l) = _
  rw [Bool.eq_iff_iff]
  simp [List.isPrefixOf]
  exact eq_comm
theorem rd_below {w w':World} {p B:Nat} {z:Zip} (h:RdAt w p B z) (hb:Below w.heap.size w w'):RdAt w' p B z:=by
 obtain ⟨sv,h1,h2⟩:=h
 exact ⟨sv,(Blk.Chg.ofBelow' (S:=fun _=>False) hb).is h1 (by simp),Mem.below h2 hb⟩
theorem rd_base {w:World} {p B:Nat} {z:Zip} (h:RdAt w p B z):B ≤ w.heap.size:=by
 obtain ⟨sv,_,h2⟩:=h
 obtain ⟨_,_,_,hh,_⟩:=h2
 exact hh
theorem rd_close {w:World} {p B:Nat} {z:Zip} (h:RdAt w p B z):RdAt (w.setCell ⟨p,1,none⟩ (.bool false)) p B z.close:=by
 obtain ⟨sv,h1,h2⟩:=h
 refine ⟨sv,?_,?_⟩
 ·have h3:=h1.set 1 (.bool false)
  have e:z.close.cur.isSome = false:=by
   obtain ⟨d,q⟩:=z
   cases q <;> rfl
  rw [e]
  simpa using h3
 ·exact Mem.reader (MemZ.close h2) h1 1 (.bool false)
theorem eq_empty (t:ByteArray):t.toList.isEmpty = decide (t.data.toList = []):=by
 rw [Lib.toList_data]
 cases t.data.toList <;> rfl
theorem goOn_post {p B:Nat} {z:Zip} {x:Bs} {n:Int} {w w':World} {e:Ending} (h1:x.head? ≠ some 35) (h2:trimL x ≠ []) (h3:Txt.W (x.headD 0) = true) (hb:Below B w w')
  (h:(∃ c,goOn z x.tail = .error c ∧ e = .returned (.int .i64 (c:Nat))) ∨ ∃ z',goOn z x.tail = .ok z' ∧ e = .returned (.int .i64 0) ∧ RdAt w' p B z'):TakePost p B z x n w e w':=by
 unfold TakePost take
 rw [if_neg h1,if_neg h2,if_pos h3]
 exact ⟨hb,h⟩
theorem field_post {p B:Nat} {z:Zip} {x:Bs} {n:Int} {w w':World} {e:Ending} (h1:x.head? ≠ some 35) (h2:trimL x ≠ []) (h3:Txt.W (x.headD 0) = false) (hb:Below B w w')
  (h:(∃ c,field z x n = .error c ∧ e = .returned (.int .i64 (c:Nat))) ∨ ∃ z',field z x n = .ok z' ∧ e = .returned (.int .i64 0) ∧ RdAt w' p B z'):TakePost p B z x n w e w':=by
 unfold TakePost take
 rw [if_neg h1,if_neg h2,if_neg (by rw [h3]; simp)]
 exact ⟨hb,h⟩
theorem field_any (p B:Nat) (z:Zip) (s:ByteArray) (n:Int) (w:World) (hs:s.size ≤ 1000000) (hM:Txt.MaxLen w) (hT:Lib.Utf8Tabs 3 4 w) (h:RdAt w p B z) (hpB:B ≤ p) (hBT:3 < B ∧ 4 < B) (hf:Fit 70000 z) :
  Calls Tryz.prog 228 #[.pointer (some ⟨p,0,none⟩),.string s,.int .i64 n] w fun e w'=>Below B w w' ∧ ((∃ c,field z s.data.toList n = .error c ∧ e = .returned (.int .i64 (c:Nat))) ∨ ∃ z',field z s.data.toList n = .ok z' ∧ e = .returned (.int .i64 0) ∧ RdAt w' p B z'):=by
 have hB:=rd_base h
 unfold field
 cases hcut:cutL s.data.toList with
 | none=>exact (field_nocut p s n w hs hM hcut).mono fun e w' hh=>⟨hh.2.mono hB,.inl ⟨3,rfl,hh.1⟩⟩
 | some q =>
  obtain ⟨nm,r⟩:=q
  have hlen:=congrArg List.length (cut_eq hcut).1
  rw [Txt.len_list,List.length_append,List.length_cons] at hlen
  simp only
  cases hn:nameB nm with
  | false =>
   simp only [Bool.false_eq_true,if_false]
   exact (field_noname p s n nm r w hs hM hcut hn (by omega)).mono fun e w' hh=>⟨hh.2.mono hB,.inl ⟨3,rfl,hh.1⟩⟩
  | true =>
   simp only [if_true]
   obtain ⟨d,q⟩:=z
   obtain ⟨f1,_,f2⟩:=hf
   unfold begin
   cases q with
   | none =>
    simp only at f1 ⊢
    by_cases hd:d.length = 200
    ·rw [if_pos hd]
     refine (field_full p B d s n nm r w hs hM hcut hn (by omega) h hd).mono fun e w' hh=>⟨hh.2.mono hB,.inl ⟨12,rfl,hh.1⟩⟩
    ·rw [if_neg hd]
     refine (field_new p B d s n nm r w hs hM hT hcut hn (by omega) (by omega) h hpB hBT f1 hd).mono fun e w' hh=>?_
     obtain ⟨hb,hh⟩:=hh
     refine ⟨hb,.inr ⟨_,rfl,?_⟩⟩
     rcases hh with ⟨h0,_⟩ | ⟨_,h0,_⟩ | ⟨_,_,h1,h2⟩
     ·cases h0
     ·cases h0
     ·exact ⟨h1,h2⟩
   | some q =>
    obtain ⟨k,fs,f⟩:=q
    obtain ⟨g1,g2,g3⟩:=f2 k fs f rfl
    simp only at f1 g1 ⊢
    refine (field_more p B d k fs f s n nm r w hs hM hT hcut hn (by omega) (by omega) h hpB hBT f1 g2 (fun x hx=>(g3 x hx).1) (fun x hx=>by have:=(g3 x hx).2; omega)).mono fun e w' hh=>?_
    obtain ⟨hb,hh⟩:=hh
    refine ⟨hb,?_⟩
    have hl:(fs ++ [f]).length = fs.length + 1:=by simp
    rw [hl] at hh
    rcases hh with ⟨h0,h1⟩ | ⟨h0,h1,h2⟩ | ⟨h0,h1,h2,h3⟩
    ·rw [if_pos h0]; exact .inl ⟨12,rfl,h1⟩
    ·rw [if_neg h0,if_pos h1]; exact .inl ⟨4,rfl,h2⟩
    ·rw [if_neg h0,if_neg (by rw [h1]; simp)]; exact .inr ⟨_,rfl,h2,h3⟩
theorem goOn_all (p B:Nat) (z:Zip) (s:ByteArray) (w:World) (hs:s.size ≤ 9223372036854775807) (h:RdAt w p B z) (hf:Fit 70000 z) :
  Calls Tryz.prog 227 #[.pointer (some ⟨p,0,none⟩),.string s] w fun e w'=>Below B w w' ∧ ((∃ c,goOn z s.data.toList = .error c ∧ e = .returned (.int .i64 (c:Nat))) ∨ ∃ z',goOn z s.data.toList = .ok z' ∧ e = .returned (.int .i64 0) ∧ RdAt w' p B z'):=by
 obtain ⟨d,q⟩:=z
 obtain ⟨f1,_,f2⟩:=hf
 cases q with
 | none=>exact (goOn_no p B d s w h).mono fun e w' hh=>⟨by rw [hh.2]; exact Below.refl _ _,.inl ⟨3,rfl,hh.1⟩⟩
 | some q =>
  obtain ⟨k,fs,nm,ls⟩:=q
  obtain ⟨g1,g2,g3⟩:=f2 k fs (nm,ls) rfl
  have:=(g3 (nm,ls) (by simp)).2
  simp only at f1 g1 this
  exact (goOn_any p B d k fs nm ls s w h hs (by omega) (by omega) (by omega)).mono fun e w' hh=>⟨hh.2.2,.inr ⟨_,rfl,hh.1,hh.2.1⟩⟩
theorem head_take (s:ByteArray) (h:0 < s.size):(s.extract 0 1).size = 1 ∧ b (s.extract 0 1) 0 = b s 0 ∧ (s.extract 1 s.size).data.toList = s.data.toList.tail ∧ Txt.W (s.data.toList.headD 0) = wht (b s 0):=by
 obtain ⟨c,h1,h2⟩:=Txt.drop_cons s 0 h
 rw [List.drop_zero] at h1
 have hsz:(s.extract 0 1).size = 1:=by simp [ByteArray.size_extract]; omega
 have e1:=Txt.ext_list s 0 1 (by omega)
 rw [h1] at e1
 refine ⟨hsz,?_,?_,?_⟩
 ·obtain ⟨c',h3,h4⟩:=one_list hsz
  rw [h3] at e1
  simp at e1
  rw [← h4,e1,h2]
 ·have:=Txt.ext_list s 1 s.size (Nat.le_refl _)
  rw [this,List.drop_one,List.take_of_length_le (by rw [List.length_tail,Txt.len_list]; exact Nat.le_refl _)]
 ·rw [h1]
  show wht c.toNat = _
  rw [h2]
set_option maxRecDepth 100000 in
set_option maxHeartbeats 4000000 in
theorem take_any (p B:Nat) (z:Zip) (s:ByteArray) (n:Int) (w:World) (hs:s.size ≤ 1000000) (hM:Txt.MaxLen w) (hT:Lib.Utf8Tabs 3 4 w) (h:RdAt w p B z) (hpB:B ≤ p) (hBT:3 < B ∧ 4 < B ∧ 2 < B) (hf:Fit 70000 z) :
  Calls Tryz.prog 183 #[.pointer (some ⟨p,0,none⟩),.string s,.int .i64 n] w (TakePost p B z s.data.toList n w):=by
 have hB:=rd_base h
 have hpre:=Tryz.strings_HasPrefix s ⟨#[35]⟩ w
 rw [show (⟨#[35]⟩:ByteArray).data.toList = [35] from rfl,prefix_hash] at hpre
 by_cases h1:s.data.toList.head? = some 35
 ·have hend:∀ e,e = Ending.returned (.int .i64 0) → TakePost p B z s.data.toList n w e w:=fun e he=>by
   unfold TakePost take
   rw [if_pos h1]
   exact ⟨Below.refl _ _,.inr ⟨z,rfl,he,h⟩⟩
  rw [decide_eq_true h1] at hpre
  have HE:=Lib.hid hend
  have HP:=Lib.hid hpre
  clear hpre h1 hend h hf hM hT
  go_enter Tryz.func183,Tryz.ntmps183
  go_wp2_with fail
  refine HP.out.mono ?_
  rintro e w1 ⟨rfl,rfl⟩
  go_wp2_with fail
  go_ret
  exact HE.out _ rfl
 ·rw [decide_eq_false h1] at hpre
  have HP:=Lib.hid hpre
  have ht:=Txt.trim_any s w (by omega) hT
  have HTR:=Lib.hid ht
  by_cases h2:trimL s.data.toList = []
  ·have H2:=Lib.hid h2
   have hend:∀ e w1,e = Ending.returned (.int .i64 0) → Below w.heap.size w w1 → TakePost p B z s.data.toList n w e (w1.setCell ⟨p,1,none⟩ (.bool false)):=fun e w1 he hb=>by
    unfold TakePost take
    rw [if_neg h1,if_pos h2]
    exact ⟨(hb.mono hB).setCell (p:=⟨p,1,none⟩) hpB _,.inr ⟨z.close,rfl,he,rd_close (rd_below h hb)⟩⟩
   have HE:=Lib.hid hend
   obtain ⟨sv,hi,_⟩:=h
   have HI:=Lib.hid hi
   clear hpre h1 hend hf hM hT h2 ht hi
   go_enter Tryz.func183,Tryz.ntmps183
   go_wp2_with fail
   refine HP.out.mono ?_
   rintro e w1 ⟨rfl,rfl⟩
   go_wp2_with fail
   refine HTR.out.mono ?_
   rintro e w2 ⟨t,rfl,ht,b2⟩
   have hem:=eq_empty t
   rw [ht,decide_eq_true H2.out] at hem
   have hi2:=(Blk.Chg.ofBelow' (S:=fun _=>False) b2).is HI.out (by simp)
   have c1:=hi2.at (i:=1) rfl
   have f1:=hi2.free 1
   have HB2:=Lib.hid b2
   clear ht hi2 b2
   go_wp2_with fail
   go_ret
   exact HE.out _ _ rfl HB2.out
  ·have H2:=Lib.hid h2
   have hpos:0 < s.size:=by
    have:=Txt.len_list s
    cases hq:s.data.toList with
    | nil=>rw [hq] at h2; exact absurd rfl h2
    | cons c l=>rw [hq] at this; simp at this; omega
   obtain ⟨x1,x2,x3,x4⟩:=head_take s hpos
   have hpos1:1 ≤ (s.size:Int):=by omega
   have hca:=fun w=>containsAny_one (s.extract 0 1) w x1
   simp only [x2] at hca
   have hx5:(s.extract 1 s.size).size ≤ 1000000:=by simp [ByteArray.size_extract]; omega
   cases hw:wht (b s 0) with
   | true =>
    rw [hw] at x4
    simp only [hw] at hca
    have hgo:=fun w1 (hb:Below w.heap.size w w1)=>goOn_all p B z (s.extract 1 s.size) w1 (by omega) (rd_below h hb) hf
    rw [x3] at hgo
    have hend:=fun e (w1 w':World)=>@goOn_post p B z s.data.toList n w w' e h1 h2 x4
    have HE:=Lib.hid hend
    have HGO:=Lib.hid hgo
    have HCA:=Lib.hid hca
    clear hpre h1 hend hf hM hT h2 ht h hgo hca x1 x2 x3 x4 hw hx5
    go_enter Tryz.func183,Tryz.ntmps183
    go_wp2_with fail
    refine HP.out.mono ?_
    rintro e w1 ⟨rfl,rfl⟩
    go_wp2_with fail
    refine HTR.out.mono ?_
    rintro e w2 ⟨t,rfl,ht,b2⟩
    have hem:=eq_empty t
    rw [ht,decide_eq_false H2.out] at hem
    have HB2:=Lib.hid b2
    clear ht b2
    go_wp2_with fail
    refine (HCA.out w2).mono ?_
    rintro e w3 ⟨rfl,b3⟩
    have HB3:=Lib.hid (HB2.out.trans (b3.mono HB2.out.size))
    clear b3
    go_wp2_with fail
    refine (HGO.out w3 HB3.out).mono ?_
    rintro e w4 hh
    have HH:=Lib.hid hh
    have hret:∃ c,e = .returned (.int .i64 c):=by
     rcases hh.2 with ⟨c,_,hc⟩ | ⟨_,_,hc,_⟩
     ·exact ⟨_,hc⟩
     ·exact ⟨_,hc⟩
    obtain ⟨c,rfl⟩:=hret
    clear hh
    go_wp2_with fail
    go_ret
    exact HE.out _ w3 _ ((HB3.out.mono hB).trans HH.out.1) HH.out.2
   | false =>
    rw [hw] at x4
    simp only [hw] at hca
    have hgo:=fun w1 (hb:Below w.heap.size w w1)=>field_any p B z s n w1 hs (hM.below hb (by omega)) (Txt.tabs_below hT hb (by omega)) (rd_below h hb) hpB ⟨hBT.1,hBT.2.1⟩ hf
    have hend:=fun e (w1 w':World)=>@field_post p B z s.data.toList n w w' e h1 h2 x4
    have HE:=Lib.hid hend
    have HGO:=Lib.hid hgo
    have HCA:=Lib.hid hca
    clear hpre h1 hend hf hM hT h2 ht h hgo hca x1 x2 x3 x4 hw hx5
    go_enter Tryz.func183,Tryz.ntmps183
    go_wp2_with fail
    refine HP.out.mono ?_
    rintro e w1 ⟨rfl,rfl⟩
    go_wp2_with fail
    refine HTR.out.mono ?_
    rintro e w2 ⟨t,rfl,ht,b2⟩
    have hem:=eq_empty t
    rw [ht,decide_eq_false H2.out] at hem
    have HB2:=Lib.hid b2
    clear ht b2
    go_wp2_with fail
    refine (HCA.out w2).mono ?_
    rintro e w3 ⟨rfl,b3⟩
    have HB3:=Lib.hid (HB2.out.trans (b3.mono HB2.out.size))
    clear b3
    go_wp2_with fail
    refine (HGO.out w3 HB3.out).mono ?_
    rintro e w4 hh
    have HH:=Lib.hid hh
    have hret:∃ c,e = .returned (.int .i64 c):=by
     rcases hh.2 with ⟨c,_,hc⟩ | ⟨_,_,hc,_⟩
     ·exact ⟨_,hc⟩
     ·exact ⟨_,hc⟩
    obtain ⟨c,rfl⟩:=hret
    clear hh
    go_wp2_with fail
    go_ret
    exact HE.out _ w3 _ ((HB3.out.mono hB).trans HH.out.1) HH.out.2
end Stz
end Go.Proofs.YthmpepnikmdjpaaGreatDoor
namespace Go.Proofs.YthmpepnikmdjpaaGreatDoor
open Go.RowKit
set_option linter.unusedSimpArgs false
set_option linter.unusedVariables false
namespace Txt
theorem goodN_le (s:ByteArray):∀ f i,goodN s f i = -1 ∨ (i:Int) ≤ goodN s f i
 | 0,i=>.inl rfl
 | f + 1,i=>by
  unfold goodN
  split
  ·split
   ·exact .inr (by omega)
   ·rcases goodN_le s f (i + sz s i) with h | h
    ·exact .inl h
    ·exact .inr (by omega)
  ·exact .inl rfl
theorem good_ge (s:ByteArray):good s = -1 ∨ 0 ≤ good s:=goodN_le s s.size 0
end Txt
end Go.Proofs.YthmpepnikmdjpaaGreatDoor
namespace Go.Proofs.YthmpepnikmdjpaaGreatDoor
set_option linter.unusedSimpArgs false
set_option linter.unusedVariables false
namespace Txt
theorem goodN_asc (s:ByteArray) (h:∀ k,k < s.size → b s k < 128 ∧ ctl (b s k) = false):∀ f i,goodN s f i = -1
 | 0,i=>rfl
 | f + 1,i=>by
  unfold goodN
  split
  ·next hi =>
   have:=h i hi
   rw [sz_one s i this.1,if_neg (by rw [this.2]; simp)]
   exact goodN_asc s h f (i + 1)
  ·rfl
end Txt
namespace Stz
open Txt (W trimL trimRight trimLeft White)
theorem mk_size (a:Bs):(⟨a.toArray⟩:ByteArray).size = a.length:=by simp [ByteArray.size]
theorem mk_b (a:Bs) (k:Nat) (h:k < a.length):Txt.b ⟨a.toArray⟩ k = (a[k]).toNat:=by
 unfold Txt.b
 rw [dif_pos (by rw [mk_size]; exact h)]
 rfl
theorem good_asc {a:Bs} (h:∀ c ∈ a,c.toNat < 128 ∧ Txt.ctl c.toNat = false):goodL a:=by
 refine Txt.goodN_asc _ (fun k hk=>?_) _ _
 rw [mk_size] at hk
 rw [mk_b a k hk]
 exact h _ (List.getElem_mem hk)
def LineOK (x:Bs):Prop:=goodL x ∧ x.length ≤ 1000
/-! ### what is read may be printed -/
def Fine (ahead:List Fld) (f:Fld):Prop:=nameB f.1 = true ∧ textsOK f.2 = true ∧ ahead.any (fun g=>sameB g.1 f.1) = false
def FinesR (ahead:List Fld):List Fld → Prop
 | []=>True
 | f :: r=>Fine ahead f ∧ FinesR (ahead ++ [f]) r
def Whole (s:Sz):Prop:=s.2 ≠ [] ∧ s.2.length ≤ 40 ∧ FinesR [] s.2
end Stz
end Go.Proofs.YthmpepnikmdjpaaGreatDoor
namespace Go.Proofs.YthmpepnikmdjpaaGreatDoor
open Go.RowKit
set_option linter.unusedSimpArgs false
set_option linter.unusedVariables false
namespace Stz
open Txt (b b_eq b_lt wht trimL trimRight trimLeft)
def bytes (ls:List ByteArray):List Bs:=ls.map fun t=>t.data.toList
def PR (s:ByteArray) (l:List Sz) (er n:Nat):Prop:=∃ ls e0 n0,Txt.LR s ls e0 n0 ∧ ((e0 ≠ 0 ∧ l = [] ∧ er = e0 ∧ n = n0) ∨ (e0 = 0 ∧ parse (bytes ls) = (l,er,n)))
theorem PR.uniq {s:ByteArray} {l l':List Sz} {e e' n n':Nat} (h:PR s l e n) (h':PR s l' e' n'):l = l' ∧ e = e' ∧ n = n':=by
 obtain ⟨ls,e0,n0,h1,h2⟩:=h
 obtain ⟨ls',e0',n0',h1',h2'⟩:=h'
 obtain ⟨rfl,rfl,rfl⟩:=h1.uniq h1'
 rcases h2 with ⟨k1,rfl,rfl,rfl⟩ | ⟨k1,k2⟩
 ·rcases h2' with ⟨_,rfl,rfl,rfl⟩ | ⟨j1,_⟩
  ·exact ⟨rfl,rfl,rfl⟩
  ·exact absurd j1 k1
 ·rcases h2' with ⟨j1,_⟩ | ⟨_,j2⟩
  ·exact absurd k1 j1
  ·rw [k2] at j2
   simp only [Prod.mk.injEq] at j2
   exact j2
theorem run_snoc {ls:List Bs} {k:Nat} (h:k < ls.length) (z:Zip):run start 1 (ls.take k) = .ok z → run start 1 (ls.take (k + 1)) = (match take z (ls.getD k []) ((k:Int) + 1) with | .error e=>.error (e,k + 1) | .ok z'=>.ok z'):=by
 intro hz
 have e:ls.take (k + 1) = ls.take k ++ [ls.getD k []]:=by
  rw [List.take_succ_eq_append_getElem h]
  simp [List.getD,List.getElem?_eq_getElem h]
 have hl:(ls.take k).length = k:=by rw [List.length_take]; omega
 rw [e,run_app,hz]
 simp only [hl]
 rw [run_cons]
 rw [show ((1 + k:Nat):Int) = (k:Int) + 1 by omega]
 cases take z (ls.getD k []) ((k:Int) + 1) with
 | error c=>simp only; rw [Nat.add_comm]
 | ok z'=>rfl
theorem take_ne {z:Zip} {x:Bs} {n:Int}:take z x n ≠ .error 0:=by
 unfold take
 split
 ·intro h; cases h
 split
 ·intro h; cases h
 split
 ·unfold goOn
  split <;> (intro h; cases h)
 ·unfold field
  split
  ·intro h; cases h
  ·split
   ·unfold begin
    split
    ·split <;> (intro h; cases h)
    ·split
     ·intro h; cases h
     ·split <;> (intro h; cases h)
   ·intro h; cases h
theorem run_bad {ls:List Bs} {k:Nat} (h:k < ls.length) {z:Zip} {c:Nat} (hz:run start 1 (ls.take k) = .ok z) (ht:take z (ls.getD k []) ((k:Int) + 1) = .error c):run start 1 ls = .error (c,k + 1):=by
 have h1:=run_snoc h z hz
 rw [ht] at h1
 have e:ls = ls.take (k + 1) ++ ls.drop (k + 1):=(List.take_append_drop _ _).symm
 rw [e,run_app,h1]
/-! ### how great -/
theorem fit_mono {m m':Nat} {z:Zip} (h:Fit m z) (hm:m ≤ m'):Fit m' z:=by
 obtain ⟨h1,h2,h3⟩:=h
 refine ⟨h1,fun s hs=>⟨(h2 s hs).1,fun g hg=>⟨((h2 s hs).2 g hg).1,Nat.le_trans ((h2 s hs).2 g hg).2 hm⟩⟩,fun k fs f e=>?_⟩
 obtain ⟨k1,k2,k3⟩:=h3 k fs f e
 exact ⟨k1,k2,fun g hg=>⟨(k3 g hg).1,Nat.le_trans (k3 g hg).2 hm⟩⟩
theorem fit_start:Fit 0 start:=⟨by simp [start],(fun s hs=>by cases hs),(fun k fs f e=>by cases e)⟩
theorem fit_close {m:Nat} {z:Zip} (h:Fit m z):Fit m z.close:=by
 obtain ⟨d,q⟩:=z
 obtain ⟨h1,h2,h3⟩:=h
 cases q with
 | none=>exact ⟨h1,h2,h3⟩
 | some p =>
  obtain ⟨k,fs,f⟩:=p
  obtain ⟨k1,k2,k3⟩:=h3 k fs f rfl
  simp only at k1
  refine ⟨by show (d ++ [(k,fs ++ [f])]).length ≤ 200; simp; omega,fun s hs=>?_,fun _ _ _ e=>by cases e⟩
  rcases List.mem_append.1 (show s ∈ d ++ [(k,fs ++ [f])] from hs) with hs | hs
  ·exact h2 s hs
  ·rw [List.mem_singleton.1 hs]
   exact ⟨by simp; omega,k3⟩
theorem fit_take {m:Nat} {z z':Zip} {x:Bs} {n:Int} (h:Fit m z) (hx:x.length ≤ 1000000) (ht:take z x n = .ok z'):Fit (m + 1) z':=by
 unfold take at ht
 split at ht
 ·cases ht; exact fit_mono h (by omega)
 split at ht
 ·cases ht; exact fit_mono (fit_close h) (by omega)
 split at ht
 ·obtain ⟨d,q⟩:=z
  cases q with
  | none=>cases ht
  | some p =>
   obtain ⟨k,fs,nm,ls⟩:=p
   cases ht
   obtain ⟨h1,h2,h3⟩:=fit_mono (m':=m + 1) h (by omega)
   obtain ⟨k1,k2,k3⟩:=h.2.2 k fs (nm,ls) rfl
   refine ⟨h1,h2,fun k' fs' f' e=>?_⟩
   simp only [Option.some.injEq,Prod.mk.injEq] at e
   obtain ⟨rfl,rfl,rfl⟩:=e
   refine ⟨k1,k2,fun g hg=>?_⟩
   rcases List.mem_append.1 hg with hg | hg
   ·have:=k3 g (List.mem_append.2 (.inl hg)); exact ⟨this.1,by omega⟩
   ·rw [List.mem_singleton.1 hg]
    have:=k3 (nm,ls) (by simp)
    exact ⟨this.1,by simpa using this.2⟩
 ·unfold field at ht
  cases hc:cutL x with
  | none=>rw [hc] at ht; cases ht
  | some p =>
   obtain ⟨nm,r⟩:=p
   rw [hc] at ht
   have hlen:=congrArg List.length (cut_eq hc).1
   rw [List.length_append,List.length_cons] at hlen
   simp only at ht
   split at ht
   ·unfold begin at ht
    obtain ⟨d,q⟩:=z
    cases q with
    | none =>
     simp only at ht
     split at ht
     ·cases ht
     ·next hd =>
      cases ht
      obtain ⟨h1,h2,h3⟩:=fit_mono (m':=m + 1) h (by omega)
      simp only at h1
      refine ⟨h1,h2,fun k' fs' f' e=>?_⟩
      simp only [Option.some.injEq,Prod.mk.injEq] at e
      obtain ⟨rfl,rfl,rfl⟩:=e
      refine ⟨by simp only; omega,by simp,fun g hg=>?_⟩
      simp at hg
      subst hg
      exact ⟨by simp only; omega,by simp⟩
    | some p =>
     obtain ⟨k,fs,f⟩:=p
     simp only at ht
     split at ht
     ·cases ht
     ·next hd =>
      split at ht
      ·cases ht
      ·cases ht
       obtain ⟨h1,h2,h3⟩:=fit_mono (m':=m + 1) h (by omega)
       obtain ⟨k1,k2,k3⟩:=h3 k fs f rfl
       refine ⟨h1,h2,fun k' fs' f' e=>?_⟩
       simp only [Option.some.injEq,Prod.mk.injEq] at e
       obtain ⟨rfl,rfl,rfl⟩:=e
       refine ⟨k1,by simp; omega,fun g hg=>?_⟩
       rcases List.mem_append.1 hg with hg | hg
       ·exact k3 g hg
       ·rw [List.mem_singleton.1 hg]
        exact ⟨by simp only; omega,by simp⟩
   ·cases ht
theorem fit_bnd {m:Nat} {z:Zip} (h:Fit m z) (hc:z.cur = none) (hm:200 ≤ m):Bnd m z.done:=⟨by have:=h.1; omega,fun s hs=>⟨by have:=(h.2.1 s hs).1; omega,fun f hf=>((h.2.1 s hs).2 f hf).2⟩⟩
def Small (l:List Sz):Prop:=l.length ≤ 200 ∧ ∀ s ∈ l,s.2.length ≤ 40 ∧ ∀ g ∈ s.2,g.1.length ≤ 1000000 ∧ g.2.length ≤ 70000
set_option maxRecDepth 100000 in
set_option maxHeartbeats 4000000 in
theorem parse_any (a:Option Addr) (len cap:Nat) (zs:List Int) (w:World) (hr:Row w a len zs) (hT:Lib.Utf8Tabs 3 4 w) (hm:Txt.MaxLen w) :
  Calls Tryz.prog 130 #[.slice a len cap] w fun e w'=>∃ v l er n,e = .returned (.tuple #[v,.agg #[.int .i64 (er:Nat),.int .i64 (n:Nat)]]) ∧ PR (strOfNums zs) l er n ∧ Small l ∧ Stzs w' v l ∧ Below w.heap.size w w':=by
 have htl:=Txt.tabs_lt hT
 have hml:=hm.lt
 have HT:=Lib.hid hT
 have HM:=Lib.hid hm
 have HR:=Lib.hid hr
 have cl:=fun w1 (hb:Below w.heap.size w w1)=>Txt.lines_all a len cap zs w1 (by
  exact hr.below hb) (Txt.tabs_below hT hb htl) (hm.below hb hml)
 have CL:=Lib.hid cl
 clear cl hT hm hr
 have hb0:Below w.heap.size w (w.alloc (.cells #[.int .i64 0,.int .i64 0] 45)):=(Below.refl _ _).alloc (Nat.le_refl _) _
 have HB0:=Lib.hid hb0
 clear hb0
 go_enter Tryz.func130,Tryz.ntmps130
 go_wp2_with fail
 refine (CL.out _ HB0.out).mono ?_
 rintro e w1 ⟨v,ls,er,n,rfl,hlr,hll,htx,b1⟩
 have hw1:w.heap.size + 1 ≤ w1.heap.size:=by have:=b1.size; simpa using this
 have hb1:Below w.heap.size w w1:=HB0.out.trans (b1.mono (by simp))
 have ia1:Blk.Is w1 w.heap.size 45 #[.int .i64 0,.int .i64 0]:=(Blk.Chg.ofBelow' (S:=fun _=>False) b1).is (Blk.Is.new w 45 #[.int .i64 0,.int .i64 0]) (by simp)
 have HLR:=Lib.hid hlr
 have HLL:=Lib.hid hll
 have HTX:=Lib.hid htx
 have HB1:=Lib.hid hb1
 have HIA:=Lib.hid ia1
 clear b1 hlr htx hb1
 by_cases he:er = 0
 ·subst he
  have hne:((0:Int) != 0) = false:=by simp
  obtain ⟨w2,hw2⟩:∃ w2,w1.alloc (.cells #[.int .i64 0,.int .i64 n] 45) = w2:=⟨_,rfl⟩
  obtain ⟨w3,hw3⟩:∃ w3,w2.alloc (.cells #[.slice none 0 0,.bool false] 209) = w3:=⟨_,rfl⟩
  have i2:Blk.Is w2 w1.heap.size 45 #[.int .i64 0,.int .i64 n]:=by rw [← hw2]; exact Blk.Is.new w1 45 #[.int .i64 0,.int .i64 n]
  have hb12:Below w1.heap.size w1 w2:=by rw [← hw2]; exact (Below.refl _ _).alloc (Nat.le_refl _) _
  have hb23:Below w2.heap.size w2 w3:=by rw [← hw3]; exact (Below.refl _ _).alloc (Nat.le_refl _) _
  have hb13:Below w1.heap.size w1 w3:=hb12.trans (hb23.mono hb12.size)
  have c20:w2.cell? ⟨w1.heap.size,0,none⟩ = some (.int .i64 0):=i2.at rfl
  obtain ⟨p,hp⟩:∃ p,w2.heap.size = p:=⟨_,rfl⟩
  have i3:Blk.Is w3 p 209 #[.slice none 0 0,.bool false]:=by rw [← hw3,← hp]; exact Blk.Is.new w2 209 #[.slice none 0 0,.bool false]
  have hp3:w3.heap.size = p + 1:=by rw [← hw3,← hp]; simp
  have hpw:w.heap.size + 1 ≤ p:=by have:=hb12.size; omega
  have hrd:RdAt w3 p p start:=⟨_,i3,mem_start w3 p (by omega)⟩
  have hb3:Below w.heap.size w w3:=HB1.out.trans (hb13.mono HB1.out.size)
  have hia3:Blk.Is w3 w.heap.size 45 #[.int .i64 0,.int .i64 0]:=(Blk.Chg.ofBelow' (S:=fun _=>False) hb13).is ia1 (by simp)
  have htx3:=HTX.out
  have HB13:=Lib.hid hb13
  have HP1:=Lib.hid (show w1.heap.size ≤ p by have:=hb12.size; omega)
  have hls:∀ i,i < ls.length → Txt.E (ls.getD i ByteArray.empty) = 0:=by
   have hlr:=HLR.out
   unfold Txt.LR at hlr
   split at hlr
   ·exact absurd hlr.2.1 (by decide)
   ·rcases hlr with ⟨_,_,_,h⟩ | ⟨_,h,_⟩
    ·exact h
    ·exact absurd rfl h
  have HRD:=Lib.hid hrd
  have HB3:=Lib.hid hb3
  have HIA3:=Lib.hid hia3
  have HLS:=Lib.hid hls
  have HPW:=Lib.hid hpw
  have HP3:=Lib.hid hp3
  obtain ⟨_,av,capv,rfl,hcv,hread⟩:=htx3
  have HREAD:=Lib.hid hread
  obtain ⟨L,hL⟩:∃ L,ls.length = L:=⟨_,rfl⟩
  have HL:=Lib.hid hL
  rw [hL] at hll hcv
  rw [hL]
  clear i2 hb12 hb23 hb13 i3 hrd hb3 hia3 hls hread hw1 ia1 HTX hL hpw hp3
  go_wp2_with fail
  clear c20 hw2 hw3 hp hne
  go_loopw [21] (fun i u=>∃ (k:Nat) (z:Zip),k ≤ L ∧ i = .int .i64 k ∧ Hid (run start 1 ((bytes ls).take k) = .ok z) ∧ Hid (RdAt u p p z) ∧ Hid (Fit k z) ∧ Hid (Below p w3 u)) (fun i _=>L - (intOf i).toNat)
  case atStart=>exact ⟨0,start,by omega,rfl,rfl,HRD.out,fit_start,Below.refl _ _⟩
  case round =>
   obtain ⟨k,z,hk,rfl,HRUN,HRDK,HFIT,HBK⟩:=hrel
   by_cases hlt:k < L
   ·obtain ⟨gb,off,rfl,hcells⟩:=HREAD.out (by rw [HL.out]; omega)
    have hck:=hcells k (by rw [HL.out]; exact hlt)
    have hbu:Below w1.heap.size w1 wr:=HB13.out.trans (HBK.out.mono HP1.out)
    rw [← hbu.cell (Txt.lt_cell hck)] at hck
    have hbw:Below w.heap.size w wr:=HB3.out.trans (HBK.out.mono (by have:=HPW.out; omega))
    obtain ⟨x,hx⟩:∃ x,ls.getD k ByteArray.empty = x:=⟨_,rfl⟩
    rw [hx] at hck
    have hE:=HLS.out k (by rw [HL.out]; exact hlt)
    rw [hx] at hE
    have hxs:x.size ≤ 1000:=by
     unfold Txt.E at hE
     split at hE
     ·cases hE
     ·omega
    have k0:(0:Int) ≤ k:=by omega
    have k1:(k:Int) < L:=by omega
    have hbx:(bytes ls).getD k [] = x.data.toList:=by
     unfold bytes
     have:k < ls.length:=by rw [HL.out]; exact hlt
     rw [← hx]
     simp [List.getD,this]
    have hkl:k < (bytes ls).length:=by unfold bytes; rw [List.length_map,HL.out]; exact hlt
    have hsn:=run_snoc hkl z HRUN.out
    rw [hbx] at hsn
    have hbd:=fun c=>@run_bad (bytes ls) k hkl z c HRUN.out
    rw [hbx] at hbd
    have ct:=take_any p p z x ((k:Int) + 1) wr (by omega) (HM.out.below hbw hml) (Txt.tabs_below HT.out hbw htl) HRDK.out (Nat.le_refl _) (by have:=HPW.out; omega) (fit_mono HFIT.out (by omega))
    have CT:=Lib.hid ct
    have HSN:=Lib.hid hsn
    have HBD:=Lib.hid hbd
    have HXS:=Lib.hid hxs
    clear hx hE hbx hkl hsn hbd ct hcells hxs hbw hbu
    go_wp2_with fail
    refine CT.out.mono ?_
    rintro e w5 ⟨b5,hh⟩
    have HB5:=Lib.hid (HBK.out.trans b5)
    clear b5
    rcases hh with ⟨c,ht,rfl⟩ | ⟨z',ht,rfl,hrd'⟩
    ·have hrun:=HBD.out c ht
     have hc0:c ≠ 0:=by
      rintro rfl
      exact take_ne ht
     have hcne:((c:Int) != 0) = true:=by simp; omega
     have hia5:Blk.Is w5 w.heap.size 45 #[.int .i64 0,.int .i64 0]:=(HB5.out.block _ (by have:=HPW.out; omega)).trans HIA3.out
     have r50:w5.cell? ⟨w.heap.size,0,none⟩ = some (.int .i64 0):=hia5.at rfl
     have r51:w5.cell? ⟨w.heap.size,1,none⟩ = some (.int .i64 0):=hia5.at rfl
     have f50:=hia5.free 0
     have f51:=hia5.free 1
     have HRUNX:=Lib.hid hrun
     have HIA5:=Lib.hid hia5
     clear ht hrun hia5 hck
     go_wp2_with fail
     have hF:Blk.Is ((w5.setCell ⟨w.heap.size,0,none⟩ (.int .i64 c)).setCell ⟨w.heap.size,1,none⟩ (.int .i64 ((k:Int) + 1))) w.heap.size 45 #[.int .i64 c,.int .i64 ((k:Int) + 1)]:=Txt.two_set HIA5.out _ _
     have hBF:Below w.heap.size w ((w5.setCell ⟨w.heap.size,0,none⟩ (.int .i64 c)).setCell ⟨w.heap.size,1,none⟩ (.int .i64 ((k:Int) + 1))) :=
      (((HB3.out.trans (HB5.out.mono (by have:=HPW.out; omega)))).setCell (p:=⟨w.heap.size,0,none⟩) (Nat.le_refl _) _).setCell (p:=⟨w.heap.size,1,none⟩) (Nat.le_refl _) _
     obtain ⟨V,hV⟩:∃ V,((w5.setCell ⟨w.heap.size,0,none⟩ (.int .i64 c)).setCell ⟨w.heap.size,1,none⟩ (.int .i64 ((k:Int) + 1))) = V:=⟨_,rfl⟩
     rw [hV] at hF hBF ⊢
     have j0:V.cell? ⟨w.heap.size,0,none⟩ = some (.int .i64 c):=hF.at rfl
     have j1:V.cell? ⟨w.heap.size,1,none⟩ = some (.int .i64 ((k:Int) + 1)):=hF.at rfl
     clear r50 r51 f50 f51 hV
     refine bodyPost_ret (by simp [results,Tryz.results130,go_sem,j0,j1]; try rfl) rfl ?_
     refine ⟨_,[],c,k + 1,rfl,⟨ls,0,n,HLR.out,.inr ⟨rfl,?_⟩⟩,⟨by simp,fun s hs=>by cases hs⟩,Stzs.none _,hBF⟩
     unfold parse
     rw [HRUNX.out]
    ·have hrun:=HSN.out
     rw [ht] at hrun
     have HRUN2:=Lib.hid hrun
     have HRD2:=Lib.hid hrd'
     have HFIT2:=Lib.hid (fit_take HFIT.out (by rw [Txt.len_list]; have:=HXS.out; omega) ht)
     clear ht hrun hrd' hck
     go_wp2_with fail
     refine ⟨⟨k + 1,z',by omega,by go_num,HRUN2,HRD2,HFIT2,HB5⟩,?_⟩
     simp [intOf]; omega
   ·obtain rfl:k = L:=by omega
    obtain ⟨sv,hi,hm0⟩:=HRDK.out
    have hmc:=MemZ.close hm0
    have hcn:z.close.cur = none:=by
     obtain ⟨d,q⟩:=z
     cases q <;> rfl
    have hmr:Mem wr p sv z.all none:=by
     have:Mem wr p sv z.close.done (curM z.close):=hmc
     unfold curM at this
     rw [hcn] at this
     exact this
    obtain ⟨asv,csv,nsv,rfl⟩:∃ a c m,sv = .slice a m c:=by
     obtain ⟨_,_,_,_,_,_,hown,_⟩:=hmr
     obtain ⟨a,c,e,_⟩:=own_shape hown
     exact ⟨a,c,_,e⟩
    have c0:wr.cell? ⟨p,0,none⟩ = some (.slice asv nsv csv):=hi.at rfl
    have hia5:Blk.Is wr w.heap.size 45 #[.int .i64 0,.int .i64 0]:=(HBK.out.block _ (by have:=HPW.out; omega)).trans HIA3.out
    have r50:wr.cell? ⟨w.heap.size,0,none⟩ = some (.int .i64 0):=hia5.at rfl
    have r51:wr.cell? ⟨w.heap.size,1,none⟩ = some (.int .i64 0):=hia5.at rfl
    have f50:=hia5.free 0
    have f51:=hia5.free 1
    have hfc:=fit_close HFIT.out
    have HFC:=Lib.hid hfc
    have HCN:=Lib.hid hcn
    have HMR:=Lib.hid hmr
    have HIA5:=Lib.hid hia5
    clear hi hm0 hmc hmr hia5 hfc hcn
    go_wp2_with fail
    have hF:Blk.Is ((wr.setCell ⟨w.heap.size,0,none⟩ (.int .i64 0)).setCell ⟨w.heap.size,1,none⟩ (.int .i64 0)) w.heap.size 45 #[.int .i64 0,.int .i64 0]:=Txt.two_set HIA5.out _ _
    have hBF:Below w.heap.size w ((wr.setCell ⟨w.heap.size,0,none⟩ (.int .i64 0)).setCell ⟨w.heap.size,1,none⟩ (.int .i64 0)) :=
     (((HB3.out.trans (HBK.out.mono (by have:=HPW.out; omega)))).setCell (p:=⟨w.heap.size,0,none⟩) (Nat.le_refl _) _).setCell (p:=⟨w.heap.size,1,none⟩) (Nat.le_refl _) _
    have hMF:Mem ((wr.setCell ⟨w.heap.size,0,none⟩ (.int .i64 0)).setCell ⟨w.heap.size,1,none⟩ (.int .i64 0)) p (.slice asv nsv csv) z.all none :=
     HMR.out.chg (S':=fun k=>k = w.heap.size) (Blk.Chg.setAt (S:=fun k=>k = w.heap.size) (b:=w.heap.size) (Blk.Chg.setAt (S:=fun k=>k = w.heap.size) (b:=w.heap.size) (Blk.Chg.refl _ wr) rfl) rfl) fun e _ C sz v m zs hv hC k hk hk'=>by
      have:=own_lt hv hk
      have:=HPW.out
      omega
    obtain ⟨V,hV⟩:∃ V,((wr.setCell ⟨w.heap.size,0,none⟩ (.int .i64 0)).setCell ⟨w.heap.size,1,none⟩ (.int .i64 0)) = V:=⟨_,rfl⟩
    rw [hV] at hF hBF hMF ⊢
    have j0:V.cell? ⟨w.heap.size,0,none⟩ = some (.int .i64 0):=hF.at rfl
    have j1:V.cell? ⟨w.heap.size,1,none⟩ = some (.int .i64 0):=hF.at rfl
    have HMF:=Lib.hid hMF
    clear r50 r51 f50 f51 hV c0 hMF
    refine bodyPost_ret (by simp [results,Tryz.results130,go_sem,j0,j1]; try rfl) rfl ?_
    have hfm:Fit 70000 z.close:=fit_mono HFC.out (by omega)
    refine ⟨_,z.all,0,0,rfl,⟨ls,0,n,HLR.out,.inr ⟨rfl,?_⟩⟩,⟨hfm.1,hfm.2.1⟩,HMF.out.read (m:=70000) (by decide) (fit_bnd hfm HCN.out (by omega)),hBF⟩
    have hr:=HRUN.out
    rw [List.take_of_length_le (by unfold bytes; rw [List.length_map,HL.out]; exact Nat.le_refl _)] at hr
    unfold parse
    rw [hr]
 ·have hne:((er:Int) != 0) = true:=by simp; omega
  obtain ⟨w2,hw2⟩:∃ w2,w1.alloc (.cells #[.int .i64 er,.int .i64 n] 45) = w2:=⟨_,rfl⟩
  have i2:Blk.Is w2 w1.heap.size 45 #[.int .i64 er,.int .i64 n]:=by rw [← hw2]; exact Blk.Is.new w1 45 #[.int .i64 er,.int .i64 n]
  have ia2:Blk.Is w2 w.heap.size 45 #[.int .i64 0,.int .i64 0]:=by rw [← hw2]; exact ia1.alloc _
  have hb2:Below w.heap.size w w2:=by rw [← hw2]; exact HB1.out.alloc HB1.out.size _
  have c20:w2.cell? ⟨w1.heap.size,0,none⟩ = some (.int .i64 er):=i2.at rfl
  have c21:w2.cell? ⟨w1.heap.size,1,none⟩ = some (.int .i64 n):=i2.at rfl
  have r20:w2.cell? ⟨w.heap.size,0,none⟩ = some (.int .i64 0):=ia2.at rfl
  have r21:w2.cell? ⟨w.heap.size,1,none⟩ = some (.int .i64 0):=ia2.at rfl
  have f20:=ia2.free 0
  have f21:=ia2.free 1
  have HI2:=Lib.hid i2
  have HIA2:=Lib.hid ia2
  have HB2:=Lib.hid hb2
  clear i2 ia2 hb2 ia1 HIA HB1 hw1
  go_wp2_with fail
  go_region
  go_wp2_with fail
  have hF:Blk.Is ((w2.setCell ⟨w.heap.size,0,none⟩ (.int .i64 er)).setCell ⟨w.heap.size,1,none⟩ (.int .i64 n)).drew w.heap.size 45 #[.int .i64 er,.int .i64 n]:=Txt.two_set HIA2.out _ _
  have hBF:Below w.heap.size w ((w2.setCell ⟨w.heap.size,0,none⟩ (.int .i64 er)).setCell ⟨w.heap.size,1,none⟩ (.int .i64 n)).drew :=
   ((HB2.out.setCell (p:=⟨w.heap.size,0,none⟩) (Nat.le_refl _) _).setCell (p:=⟨w.heap.size,1,none⟩) (Nat.le_refl _) _).drew
  obtain ⟨V,hV⟩:∃ V,((w2.setCell ⟨w.heap.size,0,none⟩ (.int .i64 er)).setCell ⟨w.heap.size,1,none⟩ (.int .i64 n)).drew = V:=⟨_,rfl⟩
  rw [hV] at hF hBF ⊢
  have j0:V.cell? ⟨w.heap.size,0,none⟩ = some (.int .i64 er):=hF.at rfl
  have j1:V.cell? ⟨w.heap.size,1,none⟩ = some (.int .i64 n):=hF.at rfl
  clear c20 c21 r20 r21 f20 f21 hV hw2
  refine bodyPost_ret (by simp [results,Tryz.results130,go_sem,j0,j1]; try rfl) rfl ?_
  exact ⟨_,[],er,n,rfl,⟨ls,er,n,HLR.out,.inl ⟨he,rfl,rfl,rfl⟩⟩,⟨by simp,fun s hs=>by cases hs⟩,Stzs.none _,hBF⟩
end Stz
end Go.Proofs.YthmpepnikmdjpaaGreatDoor

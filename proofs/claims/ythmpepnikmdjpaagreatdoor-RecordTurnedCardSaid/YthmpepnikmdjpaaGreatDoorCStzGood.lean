/-
The reader: one more line. Two texts side by side: their bytes, their characters, and where the first place is that is no good text. Stanzas as lists of bytes: pieces of good lines are good; what is read may be printed; a print's lines.
-/
import Derived.Test.YthmpepnikmdjpaaGreatDoorCStzField
import Derived.Test.YthmpepnikmdjpaaGreatDoorCTextAwake
import Derived.Laws.Concat
import Derived.Test.YthmpepnikmdjpaaGreatDoorCWordsK
namespace Go.Proofs.YthmpepnikmdjpaaGreatDoor
open Go.RowKit
set_option linter.unusedSimpArgs false
set_option linter.unusedVariables false
namespace Stz
open Txt (b b_eq b_lt wht trimL trimRight trimLeft)
def Fit (m:Nat) (z:Zip):Prop:=z.done.length ≤ 200 ∧ (∀ s ∈ z.done,s.2.length ≤ 40 ∧ ∀ g ∈ s.2,g.1.length ≤ 1000000 ∧ g.2.length ≤ m) ∧ ∀ k fs f,z.cur = some (k,fs,f) → z.done.length < 200 ∧ fs.length + 1 ≤ 40 ∧ ∀ g ∈ fs ++ [f],g.1.length ≤ 1000000 ∧ g.2.length ≤ m
def TakePost (p B:Nat) (z:Zip) (x:Bs) (n:Int) (w:World) (e:Ending) (w':World):Prop :=
 Below B w w' ∧ ((∃ c,take z x n = .error c ∧ e = .returned (.int .i64 (c:Nat))) ∨ ∃ z',take z x n = .ok z' ∧ e = .returned (.int .i64 0) ∧ RdAt w' p B z')
theorem prefix_hash (l:Bs):Lib.hasPrefix l [35] = decide (l.head? = some 35):=by
 cases l with
 | nil=>rfl
 | cons c l =>
  show List.isPrefixOf [35] (c :: l) = _
  rw [Bool.eq_iff_iff]
  simp [List.isPrefixOf]
  exact eq_comm
theorem rd_below {w w':World} {p B:Nat} {z:Zip} (h:RdAt w p B z) (hb:Below w.heap.size w w'):RdAt w' p B z:=by
 obtain ⟨sv,h1,h2⟩:=h
 exact ⟨sv,(Blk.Chg.ofBelow' (S:=fun _=>False) hb).is h1 (by simp),Mem.below h2 hb⟩
theorem rd_base {w:World} {p B:Nat} {z:Zip} (h:RdAt w p B z):B ≤ w.heap.size:=by
 obtain ⟨sv,_,h2⟩:=h
 obtain ⟨_,_,_,hh,_⟩:=h2
 exact hh
theorem rd_close {w:World} {p B:Nat} {z:Zip} (h:RdAt w p B z):RdAt (w.setCell ⟨p,1,none⟩ (.bool false)) p B z.close:=by
 obtain ⟨sv,h1,h2⟩:=h
 refine ⟨sv,?_,?_⟩
 ·have h3:=h1.set 1 (.bool false)
  have e:z.close.cur.isSome = false:=by
   obtain ⟨d,q⟩:=z
   cases q <;> rfl
  rw [e]
  simpa using h3
 ·exact Mem.reader (MemZ.close h2) h1 1 (.bool false)
theorem eq_empty (t:ByteArray):t.toList.isEmpty = decide (t.data.toList = []):=by
 rw [Lib.toList_data]
 cases t.data.toList <;> rfl
theorem goOn_post {p B:Nat} {z:Zip} {x:Bs} {n:Int} {w w':World} {e:Ending} (h1:x.head? ≠ some 35) (h2:trimL x ≠ []) (h3:Txt.W (x.headD 0) = true) (hb:Below B w w')
  (h:(∃ c,goOn z x.tail = .error c ∧ e = .returned (.int .i64 (c:Nat))) ∨ ∃ z',goOn z x.tail = .ok z' ∧ e = .returned (.int .i64 0) ∧ RdAt w' p B z'):TakePost p B z x n w e w':=by
 unfold TakePost take
 rw [if_neg h1,if_neg h2,if_pos h3]
 exact ⟨hb,h⟩
theorem field_post {p B:Nat} {z:Zip} {x:Bs} {n:Int} {w w':World} {e:Ending} (h1:x.head? ≠ some 35) (h2:trimL x ≠ []) (h3:Txt.W (x.headD 0) = false) (hb:Below B w w')
  (h:(∃ c,field z x n = .error c ∧ e = .returned (.int .i64 (c:Nat))) ∨ ∃ z',field z x n = .ok z' ∧ e = .returned (.int .i64 0) ∧ RdAt w' p B z'):TakePost p B z x n w e w':=by
 unfold TakePost take
 rw [if_neg h1,if_neg h2,if_neg (by rw [h3]; simp)]
 exact ⟨hb,h⟩
theorem field_any (p B:Nat) (z:Zip) (s:ByteArray) (n:Int) (w:World) (hs:s.size ≤ 1000000) (hM:Txt.MaxLen w) (hT:Lib.Utf8Tabs 3 4 w) (h:RdAt w p B z) (hpB:B ≤ p) (hBT:3 < B ∧ 4 < B) (hf:Fit 70000 z) :
  Calls Tryz.prog 228 #[.pointer (some ⟨p,0,none⟩),.string s,.int .i64 n] w fun e w'=>Below B w w' ∧ ((∃ c,field z s.data.toList n = .error c ∧ e = .returned (.int .i64 (c:Nat))) ∨ ∃ z',field z s.data.toList n = .ok z' ∧ e = .returned (.int .i64 0) ∧ RdAt w' p B z'):=by
 have hB:=rd_base h
 unfold field
 cases hcut:cutL s.data.toList with
 | none=>exact (field_nocut p s n w hs hM hcut).mono fun e w' hh=>⟨hh.2.mono hB,.inl ⟨3,rfl,hh.1⟩⟩
 | some q =>
  obtain ⟨nm,r⟩:=q
  have hlen:=congrArg List.length (cut_eq hcut).1
  rw [Txt.len_list,List.length_append,List.length_cons] at hlen
  simp only
  cases hn:nameB nm with
  | false =>
   simp only [Bool.false_eq_true,if_false]
   exact (field_noname p s n nm r w hs hM hcut hn (by omega)).mono fun e w' hh=>⟨hh.2.mono hB,.inl ⟨3,rfl,hh.1⟩⟩
  | true =>
   simp only [if_true]
   obtain ⟨d,q⟩:=z
   obtain ⟨f1,_,f2⟩:=hf
   unfold begin
   cases q with
   | none =>
    simp only at f1 ⊢
    by_cases hd:d.length = 200
    ·rw [if_pos hd]
     refine (field_full p B d s n nm r w hs hM hcut hn (by omega) h hd).mono fun e w' hh=>⟨hh.2.mono hB,.inl ⟨12,rfl,hh.1⟩⟩
    ·rw [if_neg hd]
     refine (field_new p B d s n nm r w hs hM hT hcut hn (by omega) (by omega) h hpB hBT f1 hd).mono fun e w' hh=>?_
     obtain ⟨hb,hh⟩:=hh
     refine ⟨hb,.inr ⟨_,rfl,?_⟩⟩
     rcases hh with ⟨h0,_⟩ | ⟨_,h0,_⟩ | ⟨_,_,h1,h2⟩
     ·cases h0
     ·cases h0
     ·exact ⟨h1,h2⟩
   | some q =>
    obtain ⟨k,fs,f⟩:=q
    obtain ⟨g1,g2,g3⟩:=f2 k fs f rfl
    simp only at f1 g1 ⊢
    refine (field_more p B d k fs f s n nm r w hs hM hT hcut hn (by omega) (by omega) h hpB hBT f1 g2 (fun x hx=>(g3 x hx).1) (fun x hx=>by have:=(g3 x hx).2; omega)).mono fun e w' hh=>?_
    obtain ⟨hb,hh⟩:=hh
    refine ⟨hb,?_⟩
    have hl:(fs ++ [f]).length = fs.length + 1:=by simp
    rw [hl] at hh
    rcases hh with ⟨h0,h1⟩ | ⟨h0,h1,h2⟩ | ⟨h0,h1,h2,h3⟩
    ·rw [if_pos h0]; exact .inl ⟨12,rfl,h1⟩
    ·rw [if_neg h0,if_pos h1]; exact .inl ⟨4,rfl,h2⟩
    ·rw [if_neg h0,if_neg (by rw [h1]; simp)]; exact .inr ⟨_,rfl,h2,h3⟩
theorem goOn_all (p B:Nat) (z:Zip) (s:ByteArray) (w:World) (hs:s.size ≤ 9223372036854775807) (h:RdAt w p B z) (hf:Fit 70000 z) :
  Calls Tryz.prog 227 #[.pointer (some ⟨p,0,none⟩),.string s] w fun e w'=>Below B w w' ∧ ((∃ c,goOn z s.data.toList = .error c ∧ e = .returned (.int .i64 (c:Nat))) ∨ ∃ z',goOn z s.data.toList = .ok z' ∧ e = .returned (.int .i64 0) ∧ RdAt w' p B z'):=by
 obtain ⟨d,q⟩:=z
 obtain ⟨f1,_,f2⟩:=hf
 cases q with
 | none=>exact (goOn_no p B d s w h).mono fun e w' hh=>⟨by rw [hh.2]; exact Below.refl _ _,.inl ⟨3,rfl,hh.1⟩⟩
 | some q =>
  obtain ⟨k,fs,nm,ls⟩:=q
  obtain ⟨g1,g2,g3⟩:=f2 k fs (nm,ls) rfl
  have:=(g3 (nm,ls) (by simp)).2
  simp only at f1 g1 this
  exact (goOn_any p B d k fs nm ls s w h hs (by omega) (by omega) (by omega)).mono fun e w' hh=>⟨hh.2.2,.inr ⟨_,rfl,hh.1,hh.2.1⟩⟩
theorem head_take (s:ByteArray) (h:0 < s.size):(s.extract 0 1).size = 1 ∧ b (s.extract 0 1) 0 = b s 0 ∧ (s.extract 1 s.size).data.toList = s.data.toList.tail ∧ Txt.W (s.data.toList.headD 0) = wht (b s 0):=by
 obtain ⟨c,h1,h2⟩:=Txt.drop_cons s 0 h
 rw [List.drop_zero] at h1
 have hsz:(s.extract 0 1).size = 1:=by simp [ByteArray.size_extract]; omega
 have e1:=Txt.ext_list s 0 1 (by omega)
 rw [h1] at e1
 refine ⟨hsz,?_,?_,?_⟩
 ·obtain ⟨c',h3,h4⟩:=one_list hsz
  rw [h3] at e1
  simp at e1
  rw [← h4,e1,h2]
 ·have:=Txt.ext_list s 1 s.size (Nat.le_refl _)
  rw [this,List.drop_one,List.take_of_length_le (by rw [List.length_tail,Txt.len_list]; exact Nat.le_refl _)]
 ·rw [h1]
  show wht c.toNat = _
  rw [h2]
set_option maxRecDepth 100000 in
set_option maxHeartbeats 4000000 in
theorem take_any (p B:Nat) (z:Zip) (s:ByteArray) (n:Int) (w:World) (hs:s.size ≤ 1000000) (hM:Txt.MaxLen w) (hT:Lib.Utf8Tabs 3 4 w) (h:RdAt w p B z) (hpB:B ≤ p) (hBT:3 < B ∧ 4 < B ∧ 2 < B) (hf:Fit 70000 z) :
  Calls Tryz.prog 183 #[.pointer (some ⟨p,0,none⟩),.string s,.int .i64 n] w (TakePost p B z s.data.toList n w):=by
 have hB:=rd_base h
 have hpre:=Tryz.strings_HasPrefix s ⟨#[35]⟩ w
 rw [show (⟨#[35]⟩:ByteArray).data.toList = [35] from rfl,prefix_hash] at hpre
 by_cases h1:s.data.toList.head? = some 35
 ·have hend:∀ e,e = Ending.returned (.int .i64 0) → TakePost p B z s.data.toList n w e w:=fun e he=>by
   unfold TakePost take
   rw [if_pos h1]
   exact ⟨Below.refl _ _,.inr ⟨z,rfl,he,h⟩⟩
  rw [decide_eq_true h1] at hpre
  have HE:=Lib.hid hend
  have HP:=Lib.hid hpre
  clear hpre h1 hend h hf hM hT
  go_enter Tryz.func183,Tryz.ntmps183
  go_wp2_with fail
  refine HP.out.mono ?_
  rintro e w1 ⟨rfl,rfl⟩
  go_wp2_with fail
  go_ret
  exact HE.out _ rfl
 ·rw [decide_eq_false h1] at hpre
  have HP:=Lib.hid hpre
  have ht:=Txt.trim_any s w (by omega) hT
  have HTR:=Lib.hid ht
  by_cases h2:trimL s.data.toList = []
  ·have H2:=Lib.hid h2
   have hend:∀ e w1,e = Ending.returned (.int .i64 0) → Below w.heap.size w w1 → TakePost p B z s.data.toList n w e (w1.setCell ⟨p,1,none⟩ (.bool false)):=fun e w1 he hb=>by
    unfold TakePost take
    rw [if_neg h1,if_pos h2]
    exact ⟨(hb.mono hB).setCell (p:=⟨p,1,none⟩) hpB _,.inr ⟨z.close,rfl,he,rd_close (rd_below h hb)⟩⟩
   have HE:=Lib.hid hend
   obtain ⟨sv,hi,_⟩:=h
   have HI:=Lib.hid hi
   clear hpre h1 hend hf hM hT h2 ht hi
   go_enter Tryz.func183,Tryz.ntmps183
   go_wp2_with fail
   refine HP.out.mono ?_
   rintro e w1 ⟨rfl,rfl⟩
   go_wp2_with fail
   refine HTR.out.mono ?_
   rintro e w2 ⟨t,rfl,ht,b2⟩
   have hem:=eq_empty t
   rw [ht,decide_eq_true H2.out] at hem
   have hi2:=(Blk.Chg.ofBelow' (S:=fun _=>False) b2).is HI.out (by simp)
   have c1:=hi2.at (i:=1) rfl
   have f1:=hi2.free 1
   have HB2:=Lib.hid b2
   clear ht hi2 b2
   go_wp2_with fail
   go_ret
   exact HE.out _ _ rfl HB2.out
  ·have H2:=Lib.hid h2
   have hpos:0 < s.size:=by
    have:=Txt.len_list s
    cases hq:s.data.toList with
    | nil=>rw [hq] at h2; exact absurd rfl h2
    | cons c l=>rw [hq] at this; simp at this; omega
   obtain ⟨x1,x2,x3,x4⟩:=head_take s hpos
   have hpos1:1 ≤ (s.size:Int):=by omega
   have hca:=fun w=>containsAny_one (s.extract 0 1) w x1
   simp only [x2] at hca
   have hx5:(s.extract 1 s.size).size ≤ 1000000:=by simp [ByteArray.size_extract]; omega
   cases hw:wht (b s 0) with
   | true =>
    rw [hw] at x4
    simp only [hw] at hca
    have hgo:=fun w1 (hb:Below w.heap.size w w1)=>goOn_all p B z (s.extract 1 s.size) w1 (by omega) (rd_below h hb) hf
    rw [x3] at hgo
    have hend:=fun e (w1 w':World)=>@goOn_post p B z s.data.toList n w w' e h1 h2 x4
    have HE:=Lib.hid hend
    have HGO:=Lib.hid hgo
    have HCA:=Lib.hid hca
    clear hpre h1 hend hf hM hT h2 ht h hgo hca x1 x2 x3 x4 hw hx5
    go_enter Tryz.func183,Tryz.ntmps183
    go_wp2_with fail
    refine HP.out.mono ?_
    rintro e w1 ⟨rfl,rfl⟩
    go_wp2_with fail
    refine HTR.out.mono ?_
    rintro e w2 ⟨t,rfl,ht,b2⟩
    have hem:=eq_empty t
    rw [ht,decide_eq_false H2.out] at hem
    have HB2:=Lib.hid b2
    clear ht b2
    go_wp2_with fail
    refine (HCA.out w2).mono ?_
    rintro e w3 ⟨rfl,b3⟩
    have HB3:=Lib.hid (HB2.out.trans (b3.mono HB2.out.size))
    clear b3
    go_wp2_with fail
    refine (HGO.out w3 HB3.out).mono ?_
    rintro e w4 hh
    have HH:=Lib.hid hh
    have hret:∃ c,e = .returned (.int .i64 c):=by
     rcases hh.2 with ⟨c,_,hc⟩ | ⟨_,_,hc,_⟩
     ·exact ⟨_,hc⟩
     ·exact ⟨_,hc⟩
    obtain ⟨c,rfl⟩:=hret
    clear hh
    go_wp2_with fail
    go_ret
    exact HE.out _ w3 _ ((HB3.out.mono hB).trans HH.out.1) HH.out.2
   | false =>
    rw [hw] at x4
    simp only [hw] at hca
    have hgo:=fun w1 (hb:Below w.heap.size w w1)=>field_any p B z s n w1 hs (hM.below hb (by omega)) (Txt.tabs_below hT hb (by omega)) (rd_below h hb) hpB ⟨hBT.1,hBT.2.1⟩ hf
    have hend:=fun e (w1 w':World)=>@field_post p B z s.data.toList n w w' e h1 h2 x4
    have HE:=Lib.hid hend
    have HGO:=Lib.hid hgo
    have HCA:=Lib.hid hca
    clear hpre h1 hend hf hM hT h2 ht h hgo hca x1 x2 x3 x4 hw hx5
    go_enter Tryz.func183,Tryz.ntmps183
    go_wp2_with fail
    refine HP.out.mono ?_
    rintro e w1 ⟨rfl,rfl⟩
    go_wp2_with fail
    refine HTR.out.mono ?_
    rintro e w2 ⟨t,rfl,ht,b2⟩
    have hem:=eq_empty t
    rw [ht,decide_eq_false H2.out] at hem
    have HB2:=Lib.hid b2
    clear ht b2
    go_wp2_with fail
    refine (HCA.out w2).mono ?_
    rintro e w3 ⟨rfl,b3⟩
    have HB3:=Lib.hid (HB2.out.trans (b3.mono HB2.out.size))
    clear b3
    go_wp2_with fail
    refine (HGO.out w3 HB3.out).mono ?_
    rintro e w4 hh
    have HH:=Lib.hid hh
    have hret:∃ c,e = .returned (.int .i64 c):=by
     rcases hh.2 with ⟨c,_,hc⟩ | ⟨_,_,hc,_⟩
     ·exact ⟨_,hc⟩
     ·exact ⟨_,hc⟩
    obtain ⟨c,rfl⟩:=hret
    clear hh
    go_wp2_with fail
    go_ret
    exact HE.out _ w3 _ ((HB3.out.mono hB).trans HH.out.1) HH.out.2
end Stz
end Go.Proofs.YthmpepnikmdjpaaGreatDoor
namespace Go.Proofs.YthmpepnikmdjpaaGreatDoor
open Go.RowKit
set_option linter.unusedSimpArgs false
set_option linter.unusedVariables false
namespace Txt
theorem goodN_le (s:ByteArray):∀ f i,goodN s f i = -1 ∨ (i:Int) ≤ goodN s f i
 | 0,i=>.inl rfl
 | f + 1,i=>by
  unfold goodN
  split
  ·split
   ·exact .inr (by omega)
   ·rcases goodN_le s f (i + sz s i) with h | h
    ·exact .inl h
    ·exact .inr (by omega)
  ·exact .inl rfl
theorem good_ge (s:ByteArray):good s = -1 ∨ 0 ≤ good s:=goodN_le s s.size 0
end Txt
end Go.Proofs.YthmpepnikmdjpaaGreatDoor
namespace Go.Proofs.YthmpepnikmdjpaaGreatDoor
set_option linter.unusedSimpArgs false
set_option linter.unusedVariables false
namespace Txt
theorem goodN_asc (s:ByteArray) (h:∀ k,k < s.size → b s k < 128 ∧ ctl (b s k) = false):∀ f i,goodN s f i = -1
 | 0,i=>rfl
 | f + 1,i=>by
  unfold goodN
  split
  ·next hi =>
   have:=h i hi
   rw [sz_one s i this.1,if_neg (by rw [this.2]; simp)]
   exact goodN_asc s h f (i + 1)
  ·rfl
end Txt
namespace Stz
open Txt (W trimL trimRight trimLeft White)
theorem mk_size (a:Bs):(⟨a.toArray⟩:ByteArray).size = a.length:=by simp [ByteArray.size]
theorem mk_b (a:Bs) (k:Nat) (h:k < a.length):Txt.b ⟨a.toArray⟩ k = (a[k]).toNat:=by
 unfold Txt.b
 rw [dif_pos (by rw [mk_size]; exact h)]
 rfl
theorem good_asc {a:Bs} (h:∀ c ∈ a,c.toNat < 128 ∧ Txt.ctl c.toNat = false):goodL a:=by
 refine Txt.goodN_asc _ (fun k hk=>?_) _ _
 rw [mk_size] at hk
 rw [mk_b a k hk]
 exact h _ (List.getElem_mem hk)
def LineOK (x:Bs):Prop:=goodL x ∧ x.length ≤ 1000
/-! ### what is read may be printed -/
def Fine (ahead:List Fld) (f:Fld):Prop:=nameB f.1 = true ∧ textsOK f.2 = true ∧ ahead.any (fun g=>sameB g.1 f.1) = false
def FinesR (ahead:List Fld):List Fld → Prop
 | []=>True
 | f :: r=>Fine ahead f ∧ FinesR (ahead ++ [f]) r
def Whole (s:Sz):Prop:=s.2 ≠ [] ∧ s.2.length ≤ 40 ∧ FinesR [] s.2
end Stz
end Go.Proofs.YthmpepnikmdjpaaGreatDoor

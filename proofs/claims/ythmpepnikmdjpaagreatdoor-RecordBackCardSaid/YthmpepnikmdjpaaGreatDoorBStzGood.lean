/-
The reader: one more line. Two texts side by side: their bytes, their characters, and where the first place is that is no good text. Stanzas as lists of bytes: pieces of good lines are good; what is read may be printed; a print's lines.
-/
import Derived.Test.YthmpepnikmdjpaaGreatDoorBStzField
import Derived.Test.YthmpepnikmdjpaaGreatDoorBTextAwake
import Derived.Laws.Concat
import Derived.Test.YthmpepnikmdjpaaGreatDoorBWordsK
namespace Go.Proofs.YthmpepnikmdjpaaGreatDoor
open Go.RowKit
set_option linter.unusedSimpArgs false
set_option linter.unusedVariables false
namespace Stz
open Txt (b b_eq b_lt wht trimL trimRight trimLeft)
def Fit (m:Nat) (z:Zip):Prop:=z.done.length ≤ 200 ∧ (∀ s ∈ z.done,s.2.length ≤ 40 ∧ ∀ g ∈ s.2,g.1.length ≤ 1000000 ∧ g.2.length ≤ m) ∧ ∀ k fs f,z.cur = some (k,fs,f) → z.done.length < 200 ∧ fs.length + 1 ≤ 40 ∧ ∀ g ∈ fs ++ [f],g.1.length ≤ 1000000 ∧ g.2.length ≤ m
def TakePost (p B:Nat) (z:Zip) (x:Bs) (n:Int) (w:World) (e:Ending) (w':World):Prop :=
 Below B w w' ∧ ((∃ c,take z x n = .error c ∧ e = .returned (.int .i64 (c:Nat))) ∨ ∃ z',take z x n = .ok z' ∧ e = .returned (.int .i64 0) ∧ RdAt w' p B z')
theorem prefix_hash (l:Bs):Lib.hasPrefix l [35] = decide (l.head? = some 35):=by
 cases l with
 | nil=>rfl
 | cons c l =>
  show List.isPrefixOf [35] (c :: l) = _
  rw [Bool.eq_iff_iff]
  simp [List.isPrefixOf]
  exact eq_comm
theorem rd_below {w w':World} {p B:Nat} {z:Zip} (h:RdAt w p B z) (hb:Below w.heap.size w w'):RdAt w' p B z:=by
 obtain ⟨sv,h1,h2⟩:=h
 exact ⟨sv,(Blk.Chg.ofBelow' (S:=fun _=>False) hb).is h1 (by simp),Mem.below h2 hb⟩
theorem rd_base {w:World} {p B:Nat} {z:Zip} (h:RdAt w p B z):B ≤ w.heap.size:=by
 obtain ⟨sv,_,h2⟩:=h
 obtain ⟨_,_,_,hh,_⟩:=h2
 exact hh
theorem rd_close {w:World} {p B:Nat} {z:Zip} (h:RdAt w p B z):RdAt (w.setCell ⟨p,1,none⟩ (.bool false)) p B z.close:=by
 obtain ⟨sv,h1,h2⟩:=h
 refine ⟨sv,?_,?_⟩
 ·have h3:=h1.set 1 (.bool false)
  have e:z.close.cur.isSome = false:=by
   obtain ⟨d,q⟩:=z
   cases q <;> rfl
  rw [e]
  simpa using h3
 ·exact Mem.reader (MemZ.close h2) h1 1 (.bool false)
theorem eq_empty (t:ByteArray):t.toList.isEmpty = decide (t.data.toList = []):=by
 rw [Lib.toList_data]
 cases t.data.toList <;> rfl
theorem goOn_post {p B:Nat} {z:Zip} {x:Bs} {n:Int} {w w':World} {e:Ending} (h1:x.head? ≠ some 35) (h2:trimL x ≠ []) (h3:Txt.W (x.headD 0) = true) (hb:Below B w w')
  (h:(∃ c,goOn z x.tail = .error c ∧ e = .returned (.int .i64 (c:Nat))) ∨ ∃ z',goOn z x.tail = .ok z' ∧ e = .returned (.int .i64 0) ∧ RdAt w' p B z'):TakePost p B z x n w e w':=by
 unfold TakePost take
 rw [if_neg h1,if_neg h2,if_pos h3]
 exact ⟨hb,h⟩
theorem field_post {p B:Nat} {z:Zip} {x:Bs} {n:Int} {w w':World} {e:Ending} (h1:x.head? ≠ some 35) (h2:trimL x ≠ []) (h3:Txt.W (x.headD 0) = false) (hb:Below B w w')
  (h:(∃ c,field z x n = .error c ∧ e = .returned (.int .i64 (c:Nat))) ∨ ∃ z',field z x n = .ok z' ∧ e = .returned (.int .i64 0) ∧ RdAt w' p B z'):TakePost p B z x n w e w':=by
 unfold TakePost take
 rw [if_neg h1,if_neg h2,if_neg (by rw [h3]; simp)]
 exact ⟨hb,h⟩
theorem field_any (p B:Nat) (z:Zip) (s:ByteArray) (n:Int) (w:World) (hs:s.size ≤ 1000000) (hM:Txt.MaxLen w) (hT:Lib.Utf8Tabs 3 4 w) (h:RdAt w p B z) (hpB:B ≤ p) (hBT:3 < B ∧ 4 < B) (hf:Fit 70000 z) :
  Calls Tryz.prog 228 #[.pointer (some ⟨p,0,none⟩),.string s,.int .i64 n] w fun e w'=>Below B w w' ∧ ((∃ c,field z s.data.toList n = .error c ∧ e = .returned (.int .i64 (c:Nat))) ∨ ∃ z',field z s.data.toList n = .ok z' ∧ e = .returned (.int .i64 0) ∧ RdAt w' p B z'):=by
 have hB:=rd_base h
 unfold field
 cases hcut:cutL s.data.toList with
 | none=>exact (field_nocut p s n w hs hM hcut).mono fun e w' hh=>⟨hh.2.mono hB,.inl ⟨3,rfl,hh.1⟩⟩
 | some q =>
  obtain ⟨nm,r⟩:=q
  have hlen:=congrArg List.length (cut_eq hcut).1
  rw [Txt.len_list,List.length_append,List.length_cons] at hlen
  simp only
  cases hn:nameB nm with
  | false =>
   simp only [Bool.false_eq_true,if_false]
   exact (field_noname p s n nm r w hs hM hcut hn (by omega)).mono fun e w' hh=>⟨hh.2.mono hB,.inl ⟨3,rfl,hh.1⟩⟩
  | true =>
   simp only [if_true]
   obtain ⟨d,q⟩:=z
   obtain ⟨f1,_,f2⟩:=hf
   unfold begin
   cases q with
   | none =>
    simp only at f1 ⊢
    by_cases hd:d.length = 200
    ·rw [if_pos hd]
     refine (field_full p B d s n nm r w hs hM hcut hn (by omega) h hd).mono fun e w' hh=>⟨hh.2.mono hB,.inl ⟨12,rfl,hh.1⟩⟩
    ·rw [if_neg hd]
     refine (field_new p B d s n nm r w hs hM hT hcut hn (by omega) (by omega) h hpB hBT f1 hd).mono fun e w' hh=>?_
     obtain ⟨hb,hh⟩:=hh
     refine ⟨hb,.inr ⟨_,rfl,?_⟩⟩
     rcases hh with ⟨h0,_⟩ | ⟨_,h0,_⟩ | ⟨_,_,h1,h2⟩
     ·cases h0
     ·cases h0
     ·exact ⟨h1,h2⟩
   | some q =>
    obtain ⟨k,fs,f⟩:=q
    obtain ⟨g1,g2,g3⟩:=f2 k fs f rfl
    simp only at f1 g1 ⊢
    refine (field_more p B d k fs f s n nm r w hs hM hT hcut hn (by omega) (by omega) h hpB hBT f1 g2 (fun x hx=>(g3 x hx).1) (fun x hx=>by have:=(g3 x hx).2; omega)).mono fun e w' hh=>?_
    obtain ⟨hb,hh⟩:=hh
    refine ⟨hb,?_⟩
    have hl:(fs ++ [f]).length = fs.length + 1:=by simp
    rw [hl] at hh
    rcases hh with ⟨h0,h1⟩ | ⟨h0,h1,h2⟩ | ⟨h0,h1,h2,h3⟩
    ·rw [if_pos h0]; exact .inl ⟨12,rfl,h1⟩
    ·rw [if_neg h0,if_pos h1]; exact .inl ⟨4,rfl,h2⟩
    ·rw [if_neg h0,if_neg (by rw [h1]; simp)]; exact .inr ⟨_,rfl,h2,h3⟩
theorem goOn_all (p B:Nat) (z:Zip) (s:ByteArray) (w:World) (hs:s.size ≤ 9223372036854775807) (h:RdAt w p B z) (hf:Fit 70000 z) :
  Calls Tryz.prog 227 #[.pointer (some ⟨p,0,none⟩),.string s] w fun e w'=>Below B w w' ∧ ((∃ c,goOn z s.data.toList = .error c ∧ e = .returned (.int .i64 (c:Nat))) ∨ ∃ z',goOn z s.data.toList = .ok z' ∧ e = .returned (.int .i64 0) ∧ RdAt w' p B z'):=by
 obtain ⟨d,q⟩:=z
 obtain ⟨f1,_,f2⟩:=hf
 cases q with
 | none=>exact (goOn_no p B d s w h).mono fun e w' hh=>⟨by rw [hh.2]; exact Below.refl _ _,.inl ⟨3,rfl,hh.1⟩⟩
 | some q =>
  obtain ⟨k,fs,nm,ls⟩:=q
  obtain ⟨g1,g2,g3⟩:=f2 k fs (nm,ls) rfl
  have:=(g3 (nm,ls) (by simp)).2
  simp only at f1 g1 this
  exact (goOn_any p B d k fs nm ls s w h hs (by omega) (by omega) (by omega)).mono fun e w' hh=>⟨hh.2.2,.inr ⟨_,rfl,hh.1,hh.2.1⟩⟩
theorem head_take (s:ByteArray) (h:0 < s.size):(s.extract 0 1).size = 1 ∧ b (s.extract 0 1) 0 = b s 0 ∧ (s.extract 1 s.size).data.toList = s.data.toList.tail ∧ Txt.W (s.data.toList.headD 0) = wht (b s 0):=by
 obtain ⟨c,h1,h2⟩:=Txt.drop_cons s 0 h
 rw [List.drop_zero] at h1
 have hsz:(s.extract 0 1).size = 1:=by simp [ByteArray.size_extract]; omega
 have e1:=Txt.ext_list s 0 1 (by omega)
 rw [h1] at e1
 refine ⟨hsz,?_,?_,?_⟩
 ·obtain ⟨c',h3,h4⟩:=one_list hsz
  rw [h3] at e1
  simp at e1
  rw [← h4,e1,h2]
 ·have:=Txt.ext_list s 1 s.size (Nat.le_refl _)
  rw [this,List.drop_one,List.take_of_length_le (by rw [List.length_tail,Txt.len_list]; exact Nat.le_refl _)]
 ·rw [h1]
  show wht c.toNat = _
  rw [h2]
set_option maxRecDepth 100000 in
set_option maxHeartbeats 4000000 in
theorem take_any (p B:Nat) (z:Zip) (s:ByteArray) (n:Int) (w:World) (hs:s.size ≤ 1000000) (hM:Txt.MaxLen w) (hT:Lib.Utf8Tabs 3 4 w) (h:RdAt w p B z) (hpB:B ≤ p) (hBT:3 < B ∧ 4 < B ∧ 2 < B) (hf:Fit 70000 z) :
  Calls Tryz.prog 183 #[.pointer (some ⟨p,0,none⟩),.string s,.int .i64 n] w (TakePost p B z s.data.toList n w):=by
 have hB:=rd_base h
 have hpre:=Tryz.strings_HasPrefix s ⟨#[35]⟩ w
 rw [show (⟨#[35]⟩:ByteArray).data.toList = [35] from rfl,prefix_hash] at hpre
 by_cases h1:s.data.toList.head? = some 35
 ·have hend:∀ e,e = Ending.returned (.int .i64 0) → TakePost p B z s.data.toList n w e w:=fun e he=>by
   unfold TakePost take
   rw [if_pos h1]
   exact ⟨Below.refl _ _,.inr ⟨z,rfl,he,h⟩⟩
  rw [decide_eq_true h1] at hpre
  have HE:=Lib.hid hend
  have HP:=Lib.hid hpre
  clear hpre h1 hend h hf hM hT
  go_enter Tryz.func183,Tryz.ntmps183
  go_wp2_with fail
  refine HP.out.mono ?_
  rintro e w1 ⟨rfl,rfl⟩
  go_wp2_with fail
  go_ret
  exact HE.out _ rfl
 ·rw [decide_eq_false h1] at hpre
  have HP:=Lib.hid hpre
  have ht:=Txt.trim_any s w (by omega) hT
  have HTR:=Lib.hid ht
  by_cases h2:trimL s.data.toList = []
  ·have H2:=Lib.hid h2
   have hend:∀ e w1,e = Ending.returned (.int .i64 0) → Below w.heap.size w w1 → TakePost p B z s.data.toList n w e (w1.setCell ⟨p,1,none⟩ (.bool false)):=fun e w1 he hb=>by
    unfold TakePost take
    rw [if_neg h1,if_pos h2]
    exact ⟨(hb.mono hB).setCell (p:=⟨p,1,none⟩) hpB _,.inr ⟨z.close,rfl,he,rd_close (rd_below h hb)⟩⟩
   have HE:=Lib.hid hend
   obtain ⟨sv,hi,_⟩:=h
   have HI:=Lib.hid hi
   clear hpre h1 hend hf hM hT h2 ht hi
   go_enter Tryz.func183,Tryz.ntmps183
   go_wp2_with fail
   refine HP.out.mono ?_
   rintro e w1 ⟨rfl,rfl⟩
   go_wp2_with fail
   refine HTR.out.mono ?_
   rintro e w2 ⟨t,rfl,ht,b2⟩
   have hem:=eq_empty t
   rw [ht,decide_eq_true H2.out] at hem
   have hi2:=(Blk.Chg.ofBelow' (S:=fun _=>False) b2).is HI.out (by simp)
   have c1:=hi2.at (i:=1) rfl
   have f1:=hi2.free 1
   have HB2:=Lib.hid b2
   clear ht hi2 b2
   go_wp2_with fail
   go_ret
   exact HE.out _ _ rfl HB2.out
  ·have H2:=Lib.hid h2
   have hpos:0 < s.size:=by
    have:=Txt.len_list s
    cases hq:s.data.toList with
    | nil=>rw [hq] at h2; exact absurd rfl h2
    | cons c l=>rw [hq] at this; simp at this; omega
   obtain ⟨x1,x2,x3,x4⟩:=head_take s hpos
   have hpos1:1 ≤ (s.size:Int):=by omega
   have hca:=fun w=>containsAny_one (s.extract 0 1) w x1
   simp only [x2] at hca
   have hx5:(s.extract 1 s.size).size ≤ 1000000:=by simp [ByteArray.size_extract]; omega
   cases hw:wht (b s 0) with
   | true =>
    rw [hw] at x4
    simp only [hw] at hca
    have hgo:=fun w1 (hb:Below w.heap.size w w1)=>goOn_all p B z (s.extract 1 s.size) w1 (by omega) (rd_below h hb) hf
    rw [x3] at hgo
    have hend:=fun e (w1 w':World)=>@goOn_post p B z s.data.toList n w w' e h1 h2 x4
    have HE:=Lib.hid hend
    have HGO:=Lib.hid hgo
    have HCA:=Lib.hid hca
    clear hpre h1 hend hf hM hT h2 ht h hgo hca x1 x2 x3 x4 hw hx5
    go_enter Tryz.func183,Tryz.ntmps183
    go_wp2_with fail
    refine HP.out.mono ?_
    rintro e w1 ⟨rfl,rfl⟩
    go_wp2_with fail
    refine HTR.out.mono ?_
    rintro e w2 ⟨t,rfl,ht,b2⟩
    have hem:=eq_empty t
    rw [ht,decide_eq_false H2.out] at hem
    have HB2:=Lib.hid b2
    clear ht b2
    go_wp2_with fail
    refine (HCA.out w2).mono ?_
    rintro e w3 ⟨rfl,b3⟩
    have HB3:=Lib.hid (HB2.out.trans (b3.mono HB2.out.size))
    clear b3
    go_wp2_with fail
    refine (HGO.out w3 HB3.out).mono ?_
    rintro e w4 hh
    have HH:=Lib.hid hh
    have hret:∃ c,e = .returned (.int .i64 c):=by
     rcases hh.2 with ⟨c,_,hc⟩ | ⟨_,_,hc,_⟩
     ·exact ⟨_,hc⟩
     ·exact ⟨_,hc⟩
    obtain ⟨c,rfl⟩:=hret
    clear hh
    go_wp2_with fail
    go_ret
    exact HE.out _ w3 _ ((HB3.out.mono hB).trans HH.out.1) HH.out.2
   | false =>
    rw [hw] at x4
    simp only [hw] at hca
    have hgo:=fun w1 (hb:Below w.heap.size w w1)=>field_any p B z s n w1 hs (hM.below hb (by omega)) (Txt.tabs_below hT hb (by omega)) (rd_below h hb) hpB ⟨hBT.1,hBT.2.1⟩ hf
    have hend:=fun e (w1 w':World)=>@field_post p B z s.data.toList n w w' e h1 h2 x4
    have HE:=Lib.hid hend
    have HGO:=Lib.hid hgo
    have HCA:=Lib.hid hca
    clear hpre h1 hend hf hM hT h2 ht h hgo hca x1 x2 x3 x4 hw hx5
    go_enter Tryz.func183,Tryz.ntmps183
    go_wp2_with fail
    refine HP.out.mono ?_
    rintro e w1 ⟨rfl,rfl⟩
    go_wp2_with fail
    refine HTR.out.mono ?_
    rintro e w2 ⟨t,rfl,ht,b2⟩
    have hem:=eq_empty t
    rw [ht,decide_eq_false H2.out] at hem
    have HB2:=Lib.hid b2
    clear ht b2
    go_wp2_with fail
    refine (HCA.out w2).mono ?_
    rintro e w3 ⟨rfl,b3⟩
    have HB3:=Lib.hid (HB2.out.trans (b3.mono HB2.out.size))
    clear b3
    go_wp2_with fail
    refine (HGO.out w3 HB3.out).mono ?_
    rintro e w4 hh
    have HH:=Lib.hid hh
    have hret:∃ c,e = .returned (.int .i64 c):=by
     rcases hh.2 with ⟨c,_,hc⟩ | ⟨_,_,hc,_⟩
     ·exact ⟨_,hc⟩
     ·exact ⟨_,hc⟩
    obtain ⟨c,rfl⟩:=hret
    clear hh
    go_wp2_with fail
    go_ret
    exact HE.out _ w3 _ ((HB3.out.mono hB).trans HH.out.1) HH.out.2
end Stz
end Go.Proofs.YthmpepnikmdjpaaGreatDoor
namespace Go.Proofs.YthmpepnikmdjpaaGreatDoor
open Go.RowKit
set_option linter.unusedSimpArgs false
set_option linter.unusedVariables false
namespace Txt
theorem b_app_l (a c:ByteArray) (k:Nat) (h:k < a.size):b (a ++ c) k = b a k:=by
 unfold b
 rw [dif_pos h,dif_pos (by rw [ByteArray.size_append]; omega),ByteArray.getElem_append_left h]
theorem b_app_r (a c:ByteArray) (k:Nat):b (a ++ c) (a.size + k) = b c k:=by
 unfold b
 by_cases h:k < c.size
 ·rw [dif_pos h,dif_pos (by rw [ByteArray.size_append]; omega),ByteArray.getElem_append_right (by omega)]
  congr 2
  omega
 ·rw [dif_neg h,dif_neg (by rw [ByteArray.size_append]; omega)]
theorem on_app_l {a c:ByteArray} {k lo hi:Nat} (h:on a k lo hi = true):on (a ++ c) k lo hi = true:=by
 rw [on_iff] at h ⊢
 rw [b_app_l a c k h.1,ByteArray.size_append]
 exact ⟨by omega,h.2⟩
theorem on_app_r (a c:ByteArray) (k lo hi:Nat):on (a ++ c) (a.size + k) lo hi = on c k lo hi:=by
 unfold on
 rw [b_app_r,ByteArray.size_append]
 congr 2
 simp
theorem sz_app_r (a c:ByteArray) (k:Nat):sz (a ++ c) (a.size + k) = sz c k:=by
 unfold sz
 simp only [b_app_r,Nat.add_assoc,on_app_r]
theorem sz_app_l {a c:ByteArray} {i:Nat} (hi:i < a.size) (h:sz a i ≠ 0):sz (a ++ c) i = sz a i:=by
 have m:∀ {k lo hi},on a k lo hi = true → on (a ++ c) k lo hi = true:=fun h=>on_app_l h
 unfold sz at h ⊢
 rw [b_app_l a c i hi]
 generalize b a i = n at *
 simp only at h ⊢
 by_cases h0:n < 128
 ·rw [if_pos h0,if_pos h0]
 rw [if_neg h0] at h ⊢
 rw [if_neg h0]
 split at h
 ·next hh =>
  rw [if_pos hh]
  obtain ⟨c0,c1,o0⟩:=hh
  rw [if_pos ⟨c0,c1,m o0⟩]
 rename_i n0
 rw [if_neg n0]
 split at h
 ·next hh =>
  rw [if_pos hh]
  obtain ⟨c0,o0,o1⟩:=hh
  rw [if_neg (fun q=>by have q1:=q.1; have q2:=q.2.1; omega)]
  rw [if_pos ⟨c0,m o0,m o1⟩]
 rename_i n1
 rw [if_neg n1]
 split at h
 ·next hh =>
  rw [if_pos hh]
  obtain ⟨c0,o0,o1⟩:=hh
  rw [if_neg (fun q=>by have q1:=q.1; have q2:=q.2.1; omega)]
  rw [if_neg (fun q=>by have q1:=q.1; have q2:=q.2.1; omega)]
  rw [if_pos ⟨c0,m o0,m o1⟩]
 rename_i n2
 rw [if_neg n2]
 split at h
 ·next hh =>
  rw [if_pos hh]
  obtain ⟨c0,c1,c2,o0,o1⟩:=hh
  rw [if_neg (fun q=>by have q1:=q.1; have q2:=q.2.1; omega)]
  rw [if_neg (fun q=>by have q1:=q.1; have q2:=q.2.1; omega)]
  rw [if_neg (fun q=>by have q1:=q.1; have q2:=q.2.1; omega)]
  rw [if_pos ⟨c0,c1,c2,m o0,m o1⟩]
 rename_i n3
 rw [if_neg n3]
 split at h
 ·next hh =>
  rw [if_pos hh]
  obtain ⟨c0,o0,o1,o2⟩:=hh
  rw [if_neg (fun q=>by have q1:=q.1; have q2:=q.2.1; omega)]
  rw [if_neg (fun q=>by have q1:=q.1; have q2:=q.2.1; omega)]
  rw [if_neg (fun q=>by have q1:=q.1; have q2:=q.2.1; omega)]
  rw [if_neg (fun q=>by have q1:=q.1; have q2:=q.2.1; omega)]
  rw [if_pos ⟨c0,m o0,m o1,m o2⟩]
 rename_i n4
 rw [if_neg n4]
 split at h
 ·next hh =>
  rw [if_pos hh]
  obtain ⟨c0,o0,o1,o2⟩:=hh
  rw [if_neg (fun q=>by have q1:=q.1; have q2:=q.2.1; omega)]
  rw [if_neg (fun q=>by have q1:=q.1; have q2:=q.2.1; omega)]
  rw [if_neg (fun q=>by have q1:=q.1; have q2:=q.2.1; omega)]
  rw [if_neg (fun q=>by have q1:=q.1; have q2:=q.2.1; omega)]
  rw [if_neg (fun q=>by have q1:=q.1; have q2:=q.2.1; omega)]
  rw [if_pos ⟨c0,m o0,m o1,m o2⟩]
 rename_i n5
 rw [if_neg n5]
 split at h
 ·next hh =>
  rw [if_pos hh]
  obtain ⟨c0,c1,o0,o1,o2⟩:=hh
  rw [if_neg (fun q=>by have q1:=q.1; have q2:=q.2.1; omega)]
  rw [if_neg (fun q=>by have q1:=q.1; have q2:=q.2.1; omega)]
  rw [if_neg (fun q=>by have q1:=q.1; have q2:=q.2.1; omega)]
  rw [if_neg (fun q=>by have q1:=q.1; have q2:=q.2.1; omega)]
  rw [if_neg (fun q=>by have q1:=q.1; have q2:=q.2.1; omega)]
  rw [if_neg (fun q=>by have q1:=q.1; have q2:=q.2.1; omega)]
  rw [if_pos ⟨c0,c1,m o0,m o1,m o2⟩]
 exact absurd rfl h
theorem goodN_le (s:ByteArray):∀ f i,goodN s f i = -1 ∨ (i:Int) ≤ goodN s f i
 | 0,i=>.inl rfl
 | f + 1,i=>by
  unfold goodN
  split
  ·split
   ·exact .inr (by omega)
   ·rcases goodN_le s f (i + sz s i) with h | h
    ·exact .inl h
    ·exact .inr (by omega)
  ·exact .inl rfl
theorem goodN_fuel (s:ByteArray):∀ f g i,s.size ≤ i + f → s.size ≤ i + g → goodN s f i = goodN s g i
 | 0,0,i,_,_=>rfl
 | 0,g + 1,i,h,_=>by unfold goodN; rw [if_neg (by omega)]
 | f + 1,0,i,_,h=>by unfold goodN; rw [if_neg (by omega)]
 | f + 1,g + 1,i,h,h'=>by
  unfold goodN
  split
  ·split
   ·rfl
   ·next hn =>
    have:sz s i ≠ 0:=fun e=>hn (.inl e)
    exact goodN_fuel s f g (i + sz s i) (by omega) (by omega)
  ·rfl
theorem goodN_right (a c:ByteArray):∀ f i,goodN (a ++ c) f (a.size + i) = (if goodN c f i = -1 then -1 else (a.size:Int) + goodN c f i)
 | 0,i=>rfl
 | f + 1,i=>by
  unfold goodN
  rw [sz_app_r,b_app_r,ByteArray.size_append]
  by_cases h:i < c.size
  ·rw [if_pos (by omega),if_pos h]
   by_cases hb:sz c i = 0 ∨ ctl (b c i) = true
   ·rw [if_pos hb,if_pos hb,if_neg (by omega)]; omega
   ·rw [if_neg hb,if_neg hb,Nat.add_assoc]
    exact goodN_right a c f (i + sz c i)
  ·rw [if_neg (by omega),if_neg h]; rfl
theorem goodN_left (a c:ByteArray):∀ f F i,a.size ≤ i + f → i ≤ a.size → (a ++ c).size ≤ i + F → goodN a f i = -1 → goodN (a ++ c) F i = goodN (a ++ c) F a.size
 | 0,F,i,h,h',hF,_=>by rw [show i = a.size by omega]
 | f + 1,F,i,h,h',hF,he=>by
  by_cases hi:i < a.size
  ·unfold goodN at he
   rw [if_pos hi] at he
   by_cases hb:sz a i = 0 ∨ ctl (b a i) = true
   ·rw [if_pos hb] at he; omega
   ·rw [if_neg hb] at he
    have h0:sz a i ≠ 0:=fun e=>hb (.inl e)
    have hsa:=ByteArray.size_append (a:=a) (b:=c)
    obtain ⟨F',rfl⟩:∃ F',F = F' + 1:=⟨F - 1,by omega⟩
    have hle:=sz_le a i hi
    have ih:=goodN_left a c f F' (i + sz a i) (by omega) hle (by omega) he
    have e1:goodN (a ++ c) (F' + 1) i = goodN (a ++ c) F' (i + sz a i):=by
     conv=>lhs; unfold goodN
     rw [if_pos (by omega),sz_app_l hi h0,b_app_l a c i hi,if_neg hb]
    rw [e1,ih]
    exact goodN_fuel _ _ _ _ (by omega) (by omega)
  ·rw [show i = a.size by omega]
theorem goodN_bad (a c:ByteArray):∀ f F i,a.size ≤ i + f → (a ++ c).size ≤ i + F → ∀ x:Nat,goodN a f i = (x:Int) → x < a.size ∧ (goodN (a ++ c) F i = (x:Int) ∨ (128 ≤ b a x ∧ (goodN (a ++ c) F i = -1 ∨ (x:Int) < goodN (a ++ c) F i)))
 | 0,F,i,h,hF,x,he=>by unfold goodN at he; omega
 | f + 1,F,i,h,hF,x,he=>by
  unfold goodN at he
  by_cases hi:i < a.size
  ·have hsa:=ByteArray.size_append (a:=a) (b:=c)
   obtain ⟨F',rfl⟩:∃ F',F = F' + 1:=⟨F - 1,by omega⟩
   rw [if_pos hi] at he
   by_cases hb:sz a i = 0 ∨ ctl (b a i) = true
   ·rw [if_pos hb] at he
    obtain rfl:i = x:=by omega
    refine ⟨hi,?_⟩
    by_cases h128:b a i < 128
    ·left
     have h1:=sz_one a i h128
     have hc:ctl (b a i) = true:=by rcases hb with e | e; · omega
                                    ·exact e
     unfold goodN
     rw [if_pos (by omega),b_app_l a c i hi,if_pos (.inr hc)]
    ·unfold goodN
     rw [if_pos (by omega)]
     by_cases hb':sz (a ++ c) i = 0 ∨ ctl (b (a ++ c) i) = true
     ·rw [if_pos hb']; exact .inl rfl
     ·rw [if_neg hb']
      have h0:sz (a ++ c) i ≠ 0:=fun e=>hb' (.inl e)
      refine .inr ⟨by omega,?_⟩
      rcases goodN_le (a ++ c) F' (i + sz (a ++ c) i) with e | e
      ·exact .inl e
      ·exact .inr (by omega)
   ·rw [if_neg hb] at he
    have h0:sz a i ≠ 0:=fun e=>hb (.inl e)
    have e1:goodN (a ++ c) (F' + 1) i = goodN (a ++ c) F' (i + sz a i):=by
     conv=>lhs; unfold goodN
     rw [if_pos (by omega),sz_app_l hi h0,b_app_l a c i hi,if_neg hb]
    rw [e1]
    exact goodN_bad a c f F' (i + sz a i) (by omega) (by omega) x he
  ·rw [if_neg hi] at he; omega
theorem good_both {a c:ByteArray} (h:good a = -1):good (a ++ c) = if good c = -1 then -1 else (a.size:Int) + good c:=by
 have hsa:=ByteArray.size_append (a:=a) (b:=c)
 have e1:=goodN_left a c a.size (a ++ c).size 0 (by omega) (by omega) (by omega) h
 have e2:=goodN_right a c (a ++ c).size 0
 have e3:=goodN_fuel c (a ++ c).size c.size 0 (by omega) (by omega)
 unfold good
 rw [e1]
 rw [Nat.add_zero] at e2
 rw [e2,e3]
theorem good_first {a c:ByteArray} {x:Nat} (h:good a = (x:Int)):x < a.size ∧ (good (a ++ c) = (x:Int) ∨ (128 ≤ b a x ∧ (good (a ++ c) = -1 ∨ (x:Int) < good (a ++ c)))) :=
 goodN_bad a c a.size (a ++ c).size 0 (by omega) (by omega) x h
theorem good_ge (s:ByteArray):good s = -1 ∨ 0 ≤ good s:=goodN_le s s.size 0
end Txt
end Go.Proofs.YthmpepnikmdjpaaGreatDoor
namespace Go.Proofs.YthmpepnikmdjpaaGreatDoor
set_option linter.unusedSimpArgs false
set_option linter.unusedVariables false
namespace Txt
theorem char_bytes (s:ByteArray) (i:Nat) (h:128 ≤ b s i):∀ j,j < sz s i → 128 ≤ b s (i + j):=by
 intro j hj
 have o:=fun k lo hi (q:on s k lo hi = true)=>(on_iff s k lo hi).1 q
 unfold sz at hj
 simp only at hj
 rw [if_neg (by omega)] at hj
 rcases (by omega:j = 0 ∨ j = 1 ∨ j = 2 ∨ j = 3 ∨ 4 ≤ j) with rfl | rfl | rfl | rfl | hj4
 ·exact h
 all_goals
  split at hj
  ·next q=>first | omega | (have:=(o _ _ _ q.2.2).2.1; omega)
  split at hj
  ·next q=>first | omega | (have q1:=(o _ _ _ q.2.1).2.1; have q2:=(o _ _ _ q.2.2).2.1; omega)
  split at hj
  ·next q=>first | omega | (have q1:=(o _ _ _ q.2.1).2.1; have q2:=(o _ _ _ q.2.2).2.1; omega)
  split at hj
  ·next q=>first | omega | (have q1:=(o _ _ _ q.2.2.2.1).2.1; have q2:=(o _ _ _ q.2.2.2.2).2.1; omega)
  split at hj
  ·next q=>first | omega | (have q1:=(o _ _ _ q.2.1).2.1; have q2:=(o _ _ _ q.2.2.1).2.1; have q3:=(o _ _ _ q.2.2.2).2.1; omega)
  split at hj
  ·next q=>first | omega | (have q1:=(o _ _ _ q.2.1).2.1; have q2:=(o _ _ _ q.2.2.1).2.1; have q3:=(o _ _ _ q.2.2.2).2.1; omega)
  split at hj
  ·next q=>first | omega | (have q1:=(o _ _ _ q.2.2.1).2.1; have q2:=(o _ _ _ q.2.2.2.1).2.1; have q3:=(o _ _ _ q.2.2.2.2).2.1; omega)
  omega
theorem goodN_asc (s:ByteArray) (h:∀ k,k < s.size → b s k < 128 ∧ ctl (b s k) = false):∀ f i,goodN s f i = -1
 | 0,i=>rfl
 | f + 1,i=>by
  unfold goodN
  split
  ·next hi =>
   have:=h i hi
   rw [sz_one s i this.1,if_neg (by rw [this.2]; simp)]
   exact goodN_asc s h f (i + 1)
  ·rfl
theorem goodN_plain (s:ByteArray):∀ f i k,s.size ≤ i + f → goodN s f i = -1 → i ≤ k → k < s.size → b s k ≠ 10
 | 0,i,k,hf,_,hik,hk=>by omega
 | f + 1,i,k,hf,h,hik,hk=>by
  unfold goodN at h
  rw [if_pos (by omega)] at h
  by_cases hb:sz s i = 0 ∨ ctl (b s i) = true
  ·rw [if_pos hb] at h; omega
  ·rw [if_neg hb] at h
   have h0:sz s i ≠ 0:=fun e=>hb (.inl e)
   by_cases hlt:k < i + sz s i
   ·by_cases h1:b s i < 128
    ·rw [sz_one s i h1] at hlt
     obtain rfl:k = i:=by omega
     intro e
     apply hb
     right
     rw [e]; rfl
    ·have:=char_bytes s i (by omega) (k - i) (by omega)
     rw [show i + (k - i) = k by omega] at this
     omega
   ·exact goodN_plain s f (i + sz s i) k (by omega) h (by omega) hk
end Txt
namespace Stz
open Txt (W trimL trimRight trimLeft White)
theorem mk_app (a c:Bs):(⟨(a ++ c).toArray⟩:ByteArray) = ⟨a.toArray⟩ ++ ⟨c.toArray⟩:=by
 apply ByteArray.ext
 rw [ByteArray.data_append]
 simp
theorem mk_size (a:Bs):(⟨a.toArray⟩:ByteArray).size = a.length:=by simp [ByteArray.size]
theorem mk_b (a:Bs) (k:Nat) (h:k < a.length):Txt.b ⟨a.toArray⟩ k = (a[k]).toNat:=by
 unfold Txt.b
 rw [dif_pos (by rw [mk_size]; exact h)]
 rfl
theorem good_app {a c:Bs} (ha:goodL a) (hc:goodL c):goodL (a ++ c):=by
 unfold goodL at *
 rw [mk_app,Txt.good_both ha,if_pos hc]
theorem good_asc {a:Bs} (h:∀ c ∈ a,c.toNat < 128 ∧ Txt.ctl c.toNat = false):goodL a:=by
 refine Txt.goodN_asc _ (fun k hk=>?_) _ _
 rw [mk_size] at hk
 rw [mk_b a k hk]
 exact h _ (List.getElem_mem hk)
theorem good_plain {a:Bs} (h:goodL a):∀ c ∈ a,c ≠ 10:=by
 intro c hc
 obtain ⟨k,hk,rfl⟩:=List.mem_iff_getElem.1 hc
 have:=Txt.goodN_plain ⟨a.toArray⟩ _ 0 k (by omega) h (by omega) (by rw [mk_size]; exact hk)
 rw [mk_b a k hk] at this
 intro e
 rw [e] at this
 exact this rfl
theorem good_nil:goodL []:=by decide
theorem name_asc {nm:Bs} (h:nameB nm = true):∀ c ∈ nm,c.toNat < 128 ∧ Txt.ctl c.toNat = false:=by
 obtain ⟨_,_,_,_,_,hall⟩:=name_cons h
 intro c hc
 have:=sgn_iff.1 (hall c hc)
 refine ⟨by omega,?_⟩
 unfold Txt.ctl
 simp; omega
theorem good_first {nm x:Bs} (h:nameB nm = true) (hx:goodL x):goodL (firstLine nm x):=by
 unfold firstLine
 split
 ·exact good_app (good_asc (name_asc h)) (by decide)
 ·rw [show nm ++ 58 :: 32 :: x = nm ++ ([58,32] ++ x) by rfl]
  exact good_app (good_asc (name_asc h)) (good_app (by decide) hx)
theorem good_next {x:Bs} (hx:goodL x):goodL (nextLine x):=by
 unfold nextLine
 split
 ·decide
 ·rw [show 32 :: x = [32] ++ x by rfl]
  exact good_app (by decide) hx
def LineOK (x:Bs):Prop:=goodL x ∧ x.length ≤ 1000
theorem field_lines_ok {ahead:List Fld} {f:Fld} (h:fieldErr ahead f = 0):∀ x ∈ fieldLines f,LineOK x:=by
 obtain ⟨h1,h2,h3,h4⟩:=err_field h
 obtain ⟨nm,ls⟩:=f
 intro x hx
 refine ⟨?_,h4 x hx⟩
 cases ls with
 | nil=>cases hx
 | cons y r =>
  unfold textsOK firstOK nextOK at h2
  simp only [Bool.and_eq_true,List.all_eq_true,decide_eq_true_eq] at h2
  rcases List.mem_cons.1 hx with rfl | hx
  ·exact good_first h1 h2.1.1
  ·obtain ⟨z,hz,rfl⟩:=List.mem_map.1 hx
   exact good_next (h2.2 z hz).1
theorem stanza_lines_ok:∀ (fs ahead:List Fld),fieldsErr ahead fs = 0 → ∀ x ∈ stanzaLines fs,LineOK x
 | [],_,_,x,hx=>by cases hx
 | f :: r,ahead,h,x,hx=>by
  obtain ⟨e1,e2⟩:=errs_cons h
  unfold stanzaLines at hx
  rw [List.flatMap_cons] at hx
  rcases List.mem_append.1 hx with hx | hx
  ·exact field_lines_ok e1 x hx
  ·exact stanza_lines_ok r _ e2 x hx
theorem stanza_err {s:Sz} (h:stanzaErr s = 0):s.2 ≠ [] ∧ s.2.length ≤ 40 ∧ fieldsErr [] s.2 = 0:=by
 unfold stanzaErr at h
 split at h
 ·cases h
 ·next e=>exact ⟨fun h=>e (.inl h),by omega,h⟩
theorem all_lines_ok:∀ (l:List Sz),eachErr l = 0 → ∀ x ∈ allLines l,LineOK x
 | [],_,x,hx=>by cases hx
 | [s],h,x,hx=>stanza_lines_ok _ _ (stanza_err (each_cons h).1).2.2 x hx
 | s :: t :: r,h,x,hx=>by
  obtain ⟨e1,e2⟩:=each_cons h
  rcases List.mem_append.1 (show x ∈ stanzaLines s.2 ++ [] :: allLines (t :: r) from hx) with hx | hx
  ·exact stanza_lines_ok _ _ (stanza_err e1).2.2 x hx
  ·rcases List.mem_cons.1 hx with rfl | hx
   ·exact ⟨good_nil,by simp⟩
   ·exact all_lines_ok (t :: r) e2 x hx
end Stz
end Go.Proofs.YthmpepnikmdjpaaGreatDoor

/-
The library's TrimRight and ContainsAny at white space; first and further; the references' are those of text. Fields and stanzas in memory: read alone; and as rows of a call's own while they are read from lines.
-/
import Derived.Test.YthmpepnikmdjpaaGreatDoorCWordsK
import Derived.Shelf.Strings.IndexAnyAll
import Derived.Lib.Builder
import Derived.Test.YthmpepnikmdjpaaGreatDoorCVerDef
namespace Go.Proofs.YthmpepnikmdjpaaGreatDoor
open Go.RowKit Go.Lib
set_option linter.unusedSimpArgs false
set_option linter.unusedVariables false
namespace Stz
open Txt (b b_eq b_lt W wht trimL trimRight trimLeft)
theorem infoSet:(Tryz.prog.info? 273).map (fun i=>(i.zero,i.size)) = some (some (.agg (Array.replicate 256 (.bool false))),256):=by kernel_rfl
theorem white_has (x:UInt8):([32,9]:List UInt8).contains x = wht x.toNat:=by
 unfold wht
 rw [Bool.eq_iff_iff]
 simp [← UInt8.toNat_inj]
set_option maxRecDepth 1000000 in
set_option maxHeartbeats 2000000 in
theorem trimSet_any (s:ByteArray) (k:Nat) (w:World) (hs:s.size ≤ 9223372036854775807) (hc:∀ x:UInt8,w.cell? ⟨k,x.toNat,none⟩ = some (.bool (wht x.toNat))) :
  Calls Tryz.prog 317 #[.string s,.pointer (some ⟨k,0,none⟩)] w fun e w'=>∃ t,e = .returned (.string t) ∧ t.data.toList = trimRight s.data.toList ∧ w' = w:=by
 have HC:=Lib.hid hc
 clear hc
 go_enter Tryz.func317,Tryz.ntmps317
 go_wp2_with fail
 go_loopg [0] s.size (fun gf s0 wx=>∃ t:ByteArray,s0 = .string t ∧ wx = w ∧ t.size ≤ gf ∧ t.size ≤ s.size ∧ Hid (trimRight t.data.toList = trimRight s.data.toList))
 case atStart=>exact ⟨s,rfl,rfl,by omega,by omega,rfl⟩
 case round =>
  obtain ⟨t,rfl,rfl,hg,hts,HR⟩:=hrel
  by_cases h0:0 < t.size
  ·have h0':0 < (t.size:Int):=by omega
   obtain ⟨m,hm⟩:∃ m,t.size = m + 1:=⟨t.size - 1,by omega⟩
   obtain ⟨c,hc,hcb⟩:=Txt.take_snoc t m (by omega)
   rw [List.take_of_length_le (by rw [Txt.len_list]; omega)] at hc
   have hbm:=b_eq t m (by omega)
   rw [← hcb] at hbm
   have hbl:=UInt8.toNat_lt c
   have HCC:=Lib.hid hc
   have HCB:=Lib.hid hcb
   have HE:=Lib.hid (Txt.ext_list t 0 m (by omega))
   have hes:(t.extract 0 m).size = m:=by simp [ByteArray.size_extract]; omega
   have HES:=Lib.hid hes
   have hcell:=HC.out c
   cases hw:wht c.toNat
   ·rw [hw] at hcell
    have hR:=HR.out
    rw [HCC.out,Txt.trimRight_keep (show W c = false from hw)] at hR
    have HR2:=Lib.hid hR
    clear hR HR HES HE hc hcb hes hw
    go_wp2_with fail
    refine (Tryz.asciiSet_contains _ c _ _ hcell).mono ?_
    rintro e w' ⟨rfl,rfl⟩
    go_wp2_with fail
    go_ret
    exact ⟨t,rfl,by rw [HCC.out]; exact HR2.out,rfl⟩
   ·rw [hw] at hcell
    have hR:=HR.out
    rw [HCC.out,Txt.trimRight_back (fun d hd=>by rw [List.mem_singleton.1 hd]; exact hw)] at hR
    have hR2:trimRight (t.extract 0 m).data.toList = trimRight s.data.toList:=by
     rw [HE.out,List.drop_zero,Nat.sub_zero]; exact hR
    have HR2:=Lib.hid hR2
    clear hR hR2 HR HCC HE hc hcb hes hw
    go_wp2_with fail
    refine (Tryz.asciiSet_contains _ c _ _ hcell).mono ?_
    rintro e w' ⟨rfl,rfl⟩
    go_wp2_with fail
    go_roundg m
    case measure=>omega
    case rel=>exact ⟨t.extract 0 m,rfl,rfl,by rw [HES.out]; omega,by rw [HES.out]; omega,HR2⟩
  ·have h0':¬ 0 < (t.size:Int):=by omega
   have ht:t.data.toList = []:=List.eq_nil_of_length_eq_zero (by rw [Txt.len_list]; omega)
   have HT:=Lib.hid ht
   clear ht
   go_wp2_with fail
   go_ret
   refine ⟨t,rfl,?_,rfl⟩
   rw [← HR.out,HT.out]; rfl
theorem empty_size {s:ByteArray} (h:s.size = 0):s.data.toList = []:=List.eq_nil_of_length_eq_zero (by rw [Txt.len_list,h])
set_option maxHeartbeats 8000000 in
set_option maxRecDepth 1000000 in
theorem trimRight_any (s:ByteArray) (w:World) (hs:s.size ≤ 9223372036854775807) :
  Calls Tryz.prog 298 #[.string s,.string ⟨#[32,9]⟩] w fun e w'=>∃ t,e = .returned (.string t) ∧ t.data.toList = trimRight s.data.toList ∧ Below w.heap.size w w':=by
 by_cases h0:s.size = 0
 ·have he:s.toList.isEmpty = true:=by rw [Lib.toList_data,empty_size h0]; rfl
  have HE:=Lib.hid (empty_size h0)
  go_enter Tryz.func298,Tryz.ntmps298
  go_wp2_with fail
  go_ret
  exact ⟨s,rfl,by rw [HE.out]; rfl,Below.refl _ _⟩
 ·have he:s.toList.isEmpty = false:=by
   rw [Lib.toList_data]
   have:=Txt.len_list s
   cases hq:s.data.toList with
   | nil=>rw [hq] at this; exact absurd this.symm h0
   | cons _ _=>rfl
  have hM:=Tryz.strings_makeASCIISet (zero_of_info infoSet).1 ⟨#[32,9]⟩ w (by decide) (by
   intro j b hj
   have:b ∈ ([32,9]:List UInt8):=List.mem_of_getElem? hj
   simp at this
   rcases this with rfl | rfl <;> decide)
  rw [show (⟨#[32,9]⟩:ByteArray).data.toList = [32,9] from rfl] at hM
  obtain ⟨cs,hcs⟩:∃ cs,Lib.setCells [32,9] = cs:=⟨_,rfl⟩
  have hsz:=Lib.setCells_size [32,9]
  have hone:=Lib.setCells_one [32,9]
  have hat:∀ x:UInt8,cs[x.toNat]? = some (.bool (wht x.toNat)):=fun x=>by rw [← hcs,Lib.setCells_at,white_has]
  rw [hcs] at hM hsz hone
  have hsc:(storeCells ⟨w.heap.size + 1,0,none⟩ cs.toList 0).run Tryz.prog ((w.alloc (.cells cs 273)).alloc (.cells (Array.replicate 256 (.bool false)) 273)) = .ok () ((w.alloc (.cells cs 273)).alloc (.cells cs 273)):=by
   have:=run_storeCells_new (P:=Tryz.prog) (w.alloc (.cells cs 273)) 273 (Array.replicate 256 (.bool false)) cs (by rw [hsz]; exact (zero_of_info infoSet).2) (by rw [hsz,Array.size_replicate]) hone
   simpa using this
  obtain ⟨W,hW⟩:∃ W,((w.alloc (.cells cs 273)).alloc (.cells cs 273)) = W:=⟨_,rfl⟩
  have hbW:Below w.heap.size w W:=by rw [← hW]; exact ((Below.refl _ _).alloc (Nat.le_refl _) _).alloc (by simp) _
  have hcell:∀ x:UInt8,W.cell? ⟨w.heap.size + 1,x.toNat,none⟩ = some (.bool (wht x.toNat)):=fun x=>by
   rw [← hW,World.cell?_alloc_at _ _ _ _ (by simp),hat]
  have ct:=trimSet_any s (w.heap.size + 1) W hs hcell
  have CT:=Lib.hid ct
  have HB:=Lib.hid hbW
  have hz:=(zero_of_info infoSet).1
  rw [hW] at hsc
  clear ct hcell hbW hcs hat hone hW
  go_enter Tryz.func298,Tryz.ntmps298
  go_wp2_with (refine hM.mono ?_; rintro e w' ⟨rfl,hw⟩; rw [hw])
  refine CT.out.mono ?_
  rintro e w' ⟨t,rfl,ht,rfl⟩
  have HT:=Lib.hid ht
  clear ht
  go_wp2_with fail
  go_ret
  exact ⟨t,rfl,HT.out,HB.out⟩
/-! ### further,first -/
theorem str_eq_dot (t:ByteArray):(t.toList == [46]) = decide (t.data.toList = [46]):=by
 rw [Bool.eq_iff_iff]
 simp only [beq_iff_eq,decide_eq_true_eq,Lib.toList_data]
set_option maxRecDepth 100000 in
set_option maxHeartbeats 1000000 in
theorem further_any (s:ByteArray) (w:World) (hs:s.size ≤ 9223372036854775807) :
  Calls Tryz.prog 267 #[.string s] w fun e w'=>∃ t,e = .returned (.string t) ∧ t.data.toList = further s.data.toList ∧ Below w.heap.size w w':=by
 have ct:=trimRight_any s w hs
 have HF:Hid (further s.data.toList = if trimRight s.data.toList = [46] then [] else trimRight s.data.toList):=rfl
 generalize further s.data.toList = F at *
 go_enter Tryz.func267,Tryz.ntmps267
 go_wp2_with fail
 refine ct.mono ?_
 rintro e w1 ⟨t,rfl,ht,hb⟩
 have hd:=str_eq_dot t
 by_cases hdot:t.data.toList = [46]
 ·rw [decide_eq_true hdot] at hd
  have hF:=HF.out
  rw [← ht,if_pos hdot] at hF
  have HF2:=Lib.hid hF
  clear hF HF ht hdot
  go_wp2_with fail
  go_ret
  exact ⟨_,rfl,HF2.out.symm,hb⟩
 ·rw [decide_eq_false hdot] at hd
  have hF:=HF.out
  rw [← ht,if_neg hdot] at hF
  have HF2:=Lib.hid hF
  clear hF HF ht hdot
  go_wp2_with fail
  go_ret
  exact ⟨t,rfl,HF2.out.symm,hb⟩
set_option maxRecDepth 100000 in
theorem first_any (s:ByteArray) (w:World) (hs:s.size ≤ 9223372036854775807) (hT:Lib.Utf8Tabs 3 4 w) :
  Calls Tryz.prog 268 #[.string s] w fun e w'=>∃ t,e = .returned (.string t) ∧ t.data.toList = trimL s.data.toList ∧ Below w.heap.size w w':=by
 have ct:=Txt.trim_any s w hs hT
 clear hT
 go_enter Tryz.func268,Tryz.ntmps268
 go_wp2_with fail
 refine ct.mono ?_
 rintro e w1 ⟨t,rfl,ht,hb⟩
 have HT:=Lib.hid ht
 clear ht
 go_wp2_with fail
 go_ret
 exact ⟨t,rfl,HT.out,hb⟩
/-! ### ContainsAny of one byte -/
set_option maxRecDepth 100000 in
set_option maxHeartbeats 2000000 in
theorem indexRune_bad (s:ByteArray) (w:World) (hs:s.size ≤ 9223372036854775807) (ha:∀ k,k < s.size → b s k < 128) :
  Calls Tryz.prog 295 #[.string s,.int .i32 65533] w fun e w'=>e = .returned (.int .i64 (-1)) ∧ Below w.heap.size w w':=by
 have HA:=Lib.hid ha
 clear ha
 go_enter Tryz.func295,Tryz.ntmps295
 go_wp2_with fail
 go_loopg [5] s.size (fun gf s5 wx=>∃ pos:Nat,wx.heap[w.heap.size]? = some (.stringIter s pos) ∧ Below w.heap.size w wx ∧ s.size ≤ pos + gf ∧ pos ≤ s.size)
 case atStart=>exact ⟨0,World.iter_heap w s 0,(Below.refl _ _).alloc (Nat.le_refl _) _,by omega,by omega⟩
 case round =>
  obtain ⟨pos,hit,hbw,hfu,hps⟩:=hrel
  by_cases hlt:pos < s.size
  ·obtain ⟨g',rfl⟩:∃ g',gk = g' + 1:=⟨gk - 1,by omega⟩
   have hnx:∀ ty,(Instr.next (.pointer (some ⟨w.heap.size,0,none⟩)) true ty).run Tryz.prog wr = _:=fun ty=>Lib.run_next_any_at wr w.heap.size s pos ty hit hlt
   obtain ⟨W,hW⟩:∃ W,wr.iterAt w.heap.size s (pos + (Utf8.decode s pos).2) = W:=⟨_,rfl⟩
   have hit2:=Lib.iterAt_heap wr w.heap.size s pos (pos + (Utf8.decode s pos).2) hit
   have hbw2:=Lib.below_iterAt hbw (k:=w.heap.size) (Nat.le_refl _) s (pos + (Utf8.decode s pos).2)
   rw [hW] at hnx hit2 hbw2
   have hb:=HA.out pos hlt
   rw [Txt.dec_low s pos hlt hb] at hnx hit2
   obtain ⟨c,hc⟩:∃ c,b s pos = c:=⟨_,rfl⟩
   rw [hc] at hnx hb
   have hne:((c:Int) == 65533) = false:=beq_eq_false_iff_ne.2 (by omega)
   clear hc hW hit hbw
   go_wp2_with fail
   go_roundg g'
   case measure=>omega
   case rel=>exact ⟨pos + 1,hit2,hbw2,by omega,by omega⟩
  ·have hne:∀ ty,(Instr.next (.pointer (some ⟨w.heap.size,0,none⟩)) true ty).run Tryz.prog wr = _:=fun ty=>Lib.run_next_end_at wr w.heap.size s pos ty hit hlt
   go_wp2_with fail
   go_ret
   exact ⟨rfl,hbw⟩
set_option maxRecDepth 100000 in
set_option maxHeartbeats 2000000 in
theorem indexAny_bad (s:ByteArray) (w:World) (h1:s.size = 1) (hb:128 ≤ b s 0) :
  Calls Tryz.prog 266 #[.string s,.string ⟨#[32,9]⟩] w fun e w'=>e = .returned (.int .i64 (-1)) ∧ Below w.heap.size w w':=by
 have hdec:Utf8.decode s 0 = (65533,1):=by
  rcases Txt.dec_high s 0 (by omega) hb with ⟨h0,hd⟩ | ⟨h0,h2,_⟩
  ·exact hd
  ·omega
 have HD:=Lib.hid hdec
 have H1:=Lib.hid h1
 have h8:¬ (8:Int) < (s.size:Int):=by omega
 clear hdec hb h1
 go_enter Tryz.func266,Tryz.ntmps266
 go_wp2_with go_in
 go_loopg [9] 1 (fun gf s9 wx=>∃ pos:Nat,wx.heap[w.heap.size]? = some (.stringIter s pos) ∧ Below w.heap.size w wx ∧ 1 ≤ pos + gf ∧ pos ≤ 1)
 case atStart=>exact ⟨0,World.iter_heap w s 0,(Below.refl _ _).alloc (Nat.le_refl _) _,by omega,by omega⟩
 case round =>
  obtain ⟨pos,hit,hbw,hfu,hps⟩:=hrel
  by_cases h0:pos = 0
  ·subst h0
   have hlt:0 < s.size:=by have:=H1.out; omega
   obtain ⟨g',rfl⟩:∃ g',gk = g' + 1:=⟨gk - 1,by omega⟩
   have hnx:∀ ty,(Instr.next (.pointer (some ⟨w.heap.size,0,none⟩)) true ty).run Tryz.prog wr = _:=fun ty=>Lib.run_next_any_at wr w.heap.size s 0 ty hit hlt
   obtain ⟨W,hW⟩:∃ W,wr.iterAt w.heap.size s (0 + (Utf8.decode s 0).2) = W:=⟨_,rfl⟩
   have hit2:=Lib.iterAt_heap wr w.heap.size s 0 (0 + (Utf8.decode s 0).2) hit
   have hbw2:=Lib.below_iterAt hbw (k:=w.heap.size) (Nat.le_refl _) s (0 + (Utf8.decode s 0).2)
   rw [hW] at hnx hit2 hbw2
   rw [HD.out] at hnx hit2
   have cr:=indexRune_bad ⟨#[32,9]⟩ W (by decide) (by
    intro k hk
    have:k < 2:=hk
    rcases (by omega:k = 0 ∨ k = 1) with rfl | rfl <;> decide)
   clear hW hit hbw
   go_wp2_with fail
   refine cr.mono ?_
   rintro e w2 ⟨rfl,b2⟩
   go_wp2_with fail
   go_roundg g'
   case measure=>omega
   case rel=>exact ⟨0 + 1,(b2.block _ (Array.getElem?_eq_some_iff.1 hit2).1).trans hit2,hbw2.trans (b2.mono hbw2.size),by omega,by omega⟩
  ·have hlt:¬ pos < s.size:=by have:=H1.out; omega
   have hne:∀ ty,(Instr.next (.pointer (some ⟨w.heap.size,0,none⟩)) true ty).run Tryz.prog wr = _:=fun ty=>Lib.run_next_end_at wr w.heap.size s pos ty hit hlt
   go_wp2_with fail
   go_ret
   exact ⟨rfl,hbw⟩
theorem one_list {s:ByteArray} (h:s.size = 1):∃ c,s.data.toList = [c] ∧ c.toNat = b s 0:=by
 obtain ⟨c,h1,h2⟩:=Txt.drop_cons s 0 (by omega)
 rw [List.drop_zero,List.drop_of_length_le (by rw [Txt.len_list]; omega)] at h1
 exact ⟨c,h1,h2⟩
theorem any_two (c:UInt8):Lib.containsAny [c] [32,9] = wht c.toNat:=by
 have e:∀ c:Fin 256,Lib.containsAny [UInt8.ofNat c.1] [32,9] = wht c.1:=by decide +kernel
 have:=e ⟨c.toNat,UInt8.toNat_lt c⟩
 simp only [UInt8.ofNat_toNat] at this
 exact this
set_option maxRecDepth 100000 in
set_option maxHeartbeats 2000000 in
theorem containsAny_one (s:ByteArray) (w:World) (h1:s.size = 1) :
  Calls Tryz.prog 226 #[.string s,.string ⟨#[32,9]⟩] w fun e w'=>e = .returned (.bool (wht (b s 0))) ∧ Below w.heap.size w w':=by
 by_cases hb:b s 0 < 128
 ·obtain ⟨c,h2,h3⟩:=one_list h1
  have:=Tryz.strings_ContainsAny (zero_of_info infoSet).1 s ⟨#[32,9]⟩ w (by omega) (by decide) (by
   intro j x hj
   rw [h2] at hj
   have hm:=List.mem_singleton.1 (List.mem_of_getElem? hj)
   rw [hm,h3]; exact hb) (by
   intro j x hj
   have:x ∈ ([32,9]:List UInt8):=List.mem_of_getElem? hj
   simp at this
   rcases this with rfl | rfl <;> decide)
  rw [h2,show (⟨#[32,9]⟩:ByteArray).data.toList = [32,9] from rfl,any_two,h3] at this
  exact this
 ·have c:=indexAny_bad s w h1 (by omega)
  rw [Txt.wht_high (by omega)]
  clear hb h1
  go_enter Tryz.func226,Tryz.ntmps226
  go_wp2_with fail
  refine c.mono ?_
  rintro e w2 ⟨rfl,b2⟩
  go_wp2_with fail
  go_ret
  exact ⟨rfl,b2⟩
end Stz
end Go.Proofs.YthmpepnikmdjpaaGreatDoor
namespace Go.Proofs.YthmpepnikmdjpaaGreatDoor
open Go.RowKit
set_option linter.unusedSimpArgs false
set_option linter.unusedVariables false
namespace Stz
def S (l:Bs):ByteArray:=⟨l.toArray⟩
theorem S_data (l:Bs):(S l).data.toList = l:=by simp [S]
theorem S_of {t:ByteArray} {l:Bs} (h:t.data.toList = l):t = S l:=by
 subst h
 apply ByteArray.ext
 simp [S]
theorem S_self (t:ByteArray):S t.data.toList = t:=(S_of rfl).symm
theorem S_size (l:Bs):(S l).size = l.length:=by rw [← Txt.len_list,S_data]
/-! ### read alone -/
def FldAt (w:World) (k o:Nat) (f:Fld):Prop:=w.cell? ⟨k,o,none⟩ = some (.string (S f.1)) ∧ ∃ u,w.cell? ⟨k,o + 1,none⟩ = some u ∧ Txt.Texts w u (f.2.map S)
def Flds (w:World) (v:Value) (fs:List Fld):Prop :=
 fs.length ≤ 1152921504606846976 ∧ ∃ a cap,v = .slice a fs.length cap ∧ fs.length ≤ cap ∧ (0 < fs.length → ∃ k off,a = some ⟨k,off,none⟩ ∧ ∀ i,i < fs.length → FldAt w k (off + 2 * i) (fs.getD i ([],[])))
def SzAt (w:World) (k o:Nat) (s:Sz):Prop:=w.cell? ⟨k,o,none⟩ = some (.int .i64 s.1) ∧ ∃ u,w.cell? ⟨k,o + 1,none⟩ = some u ∧ Flds w u s.2
def Stzs (w:World) (v:Value) (l:List Sz):Prop :=
 l.length ≤ 1152921504606846976 ∧ ∃ a cap,v = .slice a l.length cap ∧ l.length ≤ cap ∧ (0 < l.length → ∃ k off,a = some ⟨k,off,none⟩ ∧ ∀ i,i < l.length → SzAt w k (off + 2 * i) (l.getD i (0,[])))
theorem FldAt.below {w w':World} {k o:Nat} {f:Fld} (h:FldAt w k o f) (hb:Below w.heap.size w w'):FldAt w' k o f:=by
 obtain ⟨h1,u,h2,h3⟩:=h
 exact ⟨by rw [hb.cell (Txt.lt_cell h1)]; exact h1,u,by rw [hb.cell (Txt.lt_cell h2)]; exact h2,h3.below hb⟩
theorem Flds.below {w w':World} {v:Value} {fs:List Fld} (h:Flds w v fs) (hb:Below w.heap.size w w'):Flds w' v fs:=by
 obtain ⟨h0,a,cap,h1,h2,h3⟩:=h
 refine ⟨h0,a,cap,h1,h2,fun hl=>?_⟩
 obtain ⟨k,off,h4,h5⟩:=h3 hl
 exact ⟨k,off,h4,fun i hi=>(h5 i hi).below hb⟩
theorem SzAt.below {w w':World} {k o:Nat} {s:Sz} (h:SzAt w k o s) (hb:Below w.heap.size w w'):SzAt w' k o s:=by
 obtain ⟨h1,u,h2,h3⟩:=h
 exact ⟨by rw [hb.cell (Txt.lt_cell h1)]; exact h1,u,by rw [hb.cell (Txt.lt_cell h2)]; exact h2,h3.below hb⟩
theorem Stzs.below {w w':World} {v:Value} {l:List Sz} (h:Stzs w v l) (hb:Below w.heap.size w w'):Stzs w' v l:=by
 obtain ⟨h0,a,cap,h1,h2,h3⟩:=h
 refine ⟨h0,a,cap,h1,h2,fun hl=>?_⟩
 obtain ⟨k,off,h4,h5⟩:=h3 hl
 exact ⟨k,off,h4,fun i hi=>(h5 i hi).below hb⟩
theorem Flds.none (w:World):Flds w (.slice none 0 0) []:=⟨by simp,_,_,rfl,Nat.le_refl _,fun h=>absurd h (by simp)⟩
theorem Stzs.none (w:World):Stzs w (.slice none 0 0) []:=⟨by simp,_,_,rfl,Nat.le_refl _,fun h=>absurd h (by simp)⟩
/-! ### rows of a call's own -/
section
variable {w w':World}
theorem own_lt {B:Nat} {e:TypeId} {sz:Nat} {v:Value} {n:Nat} {xs:List Value} (h:w.ownsRow B e sz v n xs) {k:Nat} (hk:v.ownBlock = some k):B ≤ k ∧ k < w.heap.size:=by
 rcases h.2 with ⟨rfl,_⟩ | ⟨g,cap,cur,rfl,hg,hh,_⟩
 ·cases hk
 ·simp only [Value.ownBlock,Option.some.injEq] at hk
  subst hk
  exact ⟨hg,(Array.getElem?_eq_some_iff.1 hh).1⟩
theorem own_ne {B B':Nat} {e e':TypeId} {sz sz':Nat} {v v':Value} {n n':Nat} {xs xs':List Value} (h:w.ownsRow B e sz v n xs) (h':w.ownsRow B' e' sz' v' n' xs') (he:e ≠ e'):∀ k,v.ownBlock = some k → v'.ownBlock ≠ some k:=by
 intro k hk hk'
 rcases h.2 with ⟨rfl,_⟩ | ⟨g,cap,cur,rfl,hg,hh,_⟩
 ·cases hk
 rcases h'.2 with ⟨rfl,_⟩ | ⟨g',cap',cur',rfl,hg',hh',_⟩
 ·cases hk'
 simp only [Value.ownBlock,Option.some.injEq] at hk hk'
 subst hk
 subst hk'
 rw [hh] at hh'
 cases hh'
 exact he rfl
theorem own_mono {B B':Nat} {e:TypeId} {sz:Nat} {v:Value} {n:Nat} {xs:List Value} (h:w.ownsRow B e sz v n xs) (hB:B' ≤ B):w.ownsRow B' e sz v n xs:=by
 refine ⟨h.1,?_⟩
 rcases h.2 with h2 | ⟨g,cap,cur,h2,hg,r⟩
 ·exact .inl h2
 ·exact .inr ⟨g,cap,cur,h2,Nat.le_trans hB hg,r⟩
theorem own_set {B:Nat} {e:TypeId} {sz:Nat} {g cap n:Nat} {xs:List Value} (h:w.ownsRow B e sz (.slice (some ⟨g,0,none⟩) n cap) n xs) {i:Nat} (hi:i < xs.length) (u:Value) :
  (w.setCell ⟨g,i,none⟩ u).ownsRow B e sz (.slice (some ⟨g,0,none⟩) n cap) n (xs.set i u):=by
 obtain ⟨h1,h2⟩:=h
 rcases h2 with ⟨h2,_⟩ | ⟨g',cap',cur,h2,hg,hh,hn,hc,hs,ht⟩
 ·cases h2
 ·simp only [Value.slice.injEq,Option.some.injEq,Addr.mk.injEq,and_true,true_and] at h2
  obtain ⟨rfl,rfl⟩:=h2
  refine ⟨by simpa using h1,.inr ⟨g,cap,cur.setIfInBounds i u,rfl,hg,?_,hn,hc,by simpa using hs,?_⟩⟩
  ·exact (Blk.Is.set (w:=w) (b:=g) (T:=e) (cs:=cur) hh i u)
  ·rw [Array.toList_setIfInBounds,List.take_set,ht]
theorem own_cell {B:Nat} {e:TypeId} {sz:Nat} {g cap n:Nat} {xs:List Value} (h:w.ownsRow B e sz (.slice (some ⟨g,0,none⟩) n cap) n xs) {i:Nat} {u:Value} (hi:xs[i]? = some u):w.cell? ⟨g,i,none⟩ = some u:=by
 have:=h.cells (g:=g) rfl i u hi
 have e:(⟨g,0,none⟩:Addr).add i = ⟨g,i,none⟩:=by cases i <;> simp [Addr.add]
 rw [e] at this
 exact this
theorem own_free {B:Nat} {e:TypeId} {sz:Nat} {g cap n:Nat} {xs:List Value} (h:w.ownsRow B e sz (.slice (some ⟨g,0,none⟩) n cap) n xs) (i:Nat):w.frozen? ⟨g,i,none⟩ = false:=by
 obtain ⟨h1,h2⟩:=h
 rcases h2 with ⟨h2,_⟩ | ⟨g',cap',cur,h2,hg,hh,_⟩
 ·cases h2
 ·simp only [Value.slice.injEq,Option.some.injEq,Addr.mk.injEq,and_true,true_and] at h2
  obtain ⟨rfl,rfl⟩:=h2
  exact (Blk.Is.free (w:=w) (b:=g) (T:=e) (cs:=cur) hh i)
theorem own_slice {B:Nat} {e:TypeId} {sz:Nat} {v:Value} {n:Nat} {xs:List Value} (h:w.ownsRow B e sz v n xs) (hn:0 < n):∃ g cap,v = .slice (some ⟨g,0,none⟩) n cap ∧ n ≤ cap:=by
 rcases h.2 with ⟨_,h0⟩ | ⟨g,cap,cur,rfl,_,_,hc,_⟩
 ·omega
 ·exact ⟨g,cap,rfl,hc⟩
theorem own_shape {B:Nat} {e:TypeId} {sz:Nat} {v:Value} {n:Nat} {xs:List Value} (h:w.ownsRow B e sz v n xs):∃ a cap,v = .slice a n cap ∧ n ≤ cap:=by
 rcases h.2 with ⟨rfl,rfl⟩ | ⟨g,cap,cur,rfl,_,_,hc,_⟩
 ·exact ⟨none,0,rfl,Nat.le_refl _⟩
 ·exact ⟨_,cap,rfl,hc⟩
end
def TextsIn (w:World) (B N:Nat) (u:Value) (ls:List Bs):Prop:=w.ownsRow B 9 1 u ls.length ((ls.map S).map Value.string) ∧ ∀ k,u.ownBlock = some k → k < N
def FldCells (w:World) (B N:Nat) (fs:List Fld) (ys:List Value):Prop:=∀ i,i < fs.length → ys[2 * i]? = some (.string (S (fs.getD i ([],[])).1)) ∧ ∃ u,ys[2 * i + 1]? = some u ∧ TextsIn w B N u (fs.getD i ([],[])).2
def FldsIn (w:World) (B M N:Nat) (v:Value) (fs:List Fld):Prop:=∃ ys,w.ownsRow B 43 2 v fs.length ys ∧ (∀ k,v.ownBlock = some k → k < M) ∧ FldCells w B N fs ys
def SzCells (w:World) (B M N:Nat) (l:List Sz) (xs:List Value):Prop:=∀ i,i < l.length → xs[2 * i]? = some (.int .i64 (l.getD i (0,[])).1) ∧ ∃ v,xs[2 * i + 1]? = some v ∧ FldsIn w B M N v (l.getD i (0,[])).2
def LastIn (w:World) (B N:Nat) (o:Nat) (ys:List Value):Option Fld → Prop
 | none=>True
 | some f=>ys[o]? = some (.string (S f.1)) ∧ ∃ u,ys[o + 1]? = some u ∧ w.ownsRow (max B N) 9 1 u f.2.length ((f.2.map S).map Value.string)
def cnt {α:Type}:Option α → Nat
 | none=>0
 | some _=>1
def OpenIn (w:World) (B M N:Nat) (o:Nat) (xs:List Value):Option (Int × List Fld × Option Fld) → Prop
 | none=>True
 | some (n,fs,last)=>xs[o]? = some (.int .i64 n) ∧ ∃ v ys,xs[o + 1]? = some v ∧ w.ownsRow (max B M) 43 2 v (fs.length + cnt last) ys ∧ FldCells w B N fs ys ∧ LastIn w B N (2 * fs.length) ys last
def Mem (w:World) (B:Nat) (sv:Value) (done:List Sz) (cur:Option (Int × List Fld × Option Fld)):Prop :=
 ∃ M N xs,B ≤ w.heap.size ∧ M ≤ w.heap.size ∧ N ≤ w.heap.size ∧ w.ownsRow B 40 2 sv (done.length + cnt cur) xs ∧ SzCells w B M N done xs ∧ OpenIn w B M N (2 * done.length) xs cur
theorem mem_start (w:World) (B:Nat) (hB:B ≤ w.heap.size):Mem w B (.slice none 0 0) [] none :=
 ⟨0,0,[],hB,by omega,by omega,World.ownsRow_nil w B _ 2,fun i hi=>absurd hi (by simp),trivial⟩
/-! ### what a change leaves -/
theorem TextsIn.chg {S':Nat → Prop} {w w':World} {B N:Nat} {u:Value} {ls:List Bs} (h:TextsIn w B N u ls) (hc:Blk.Chg S' w w') (hn:∀ k,u.ownBlock = some k → ¬ S' k):TextsIn w' B N u ls:=⟨hc.owns h.1 hn,h.2⟩
theorem TextsIn.mono {w:World} {B N N':Nat} {u:Value} {ls:List Bs} (h:TextsIn w B N u ls) (hN:N ≤ N'):TextsIn w B N' u ls:=⟨h.1,fun k hk=>Nat.lt_of_lt_of_le (h.2 k hk) hN⟩
theorem FldCells.mono {w:World} {B N N':Nat} {fs:List Fld} {ys:List Value} (h:FldCells w B N fs ys) (hN:N ≤ N'):FldCells w B N' fs ys:=fun i hi=>by
 obtain ⟨h1,u,h2,h3⟩:=h i hi
 exact ⟨h1,u,h2,h3.mono hN⟩
theorem FldsIn.mono {w:World} {B M N M' N':Nat} {v:Value} {fs:List Fld} (h:FldsIn w B M N v fs) (hM:M ≤ M') (hN:N ≤ N'):FldsIn w B M' N' v fs:=by
 obtain ⟨ys,h1,h2,h3⟩:=h
 exact ⟨ys,h1,fun k hk=>Nat.lt_of_lt_of_le (h2 k hk) hM,h3.mono hN⟩
theorem SzCells.mono {w:World} {B M N M' N':Nat} {l:List Sz} {xs:List Value} (h:SzCells w B M N l xs) (hM:M ≤ M') (hN:N ≤ N'):SzCells w B M' N' l xs:=fun i hi=>by
 obtain ⟨h1,v,h2,h3⟩:=h i hi
 exact ⟨h1,v,h2,h3.mono hM hN⟩
theorem FldCells.chg {S':Nat → Prop} {w w':World} {B N:Nat} {fs:List Fld} {ys:List Value} (h:FldCells w B N fs ys) (hc:Blk.Chg S' w w') (hn:∀ u n zs,w.ownsRow B 9 1 u n zs → ∀ k,u.ownBlock = some k → k < N → ¬ S' k):FldCells w' B N fs ys:=fun i hi=>by
 obtain ⟨h1,u,h2,h3⟩:=h i hi
 exact ⟨h1,u,h2,h3.chg hc fun k hk=>hn u _ _ h3.1 k hk (h3.2 k hk)⟩
theorem FldsIn.chg {S':Nat → Prop} {w w':World} {B M N:Nat} {v:Value} {fs:List Fld} (h:FldsIn w B M N v fs) (hc:Blk.Chg S' w w') (hn:∀ u n zs,w.ownsRow B 9 1 u n zs → ∀ k,u.ownBlock = some k → k < N → ¬ S' k)
  (hm:∀ u n zs,w.ownsRow B 43 2 u n zs → ∀ k,u.ownBlock = some k → k < M → ¬ S' k):FldsIn w' B M N v fs:=by
 obtain ⟨ys,h1,h2,h3⟩:=h
 exact ⟨ys,hc.owns h1 fun k hk=>hm v _ _ h1 k hk (h2 k hk),h2,h3.chg hc hn⟩
theorem SzCells.chg {S':Nat → Prop} {w w':World} {B M N:Nat} {l:List Sz} {xs:List Value} (h:SzCells w B M N l xs) (hc:Blk.Chg S' w w') (hn:∀ u n zs,w.ownsRow B 9 1 u n zs → ∀ k,u.ownBlock = some k → k < N → ¬ S' k)
  (hm:∀ u n zs,w.ownsRow B 43 2 u n zs → ∀ k,u.ownBlock = some k → k < M → ¬ S' k):SzCells w' B M N l xs:=fun i hi=>by
 obtain ⟨h1,v,h2,h3⟩:=h i hi
 exact ⟨h1,v,h2,h3.chg hc hn hm⟩
theorem Mem.chg {S':Nat → Prop} {w w':World} {B:Nat} {sv:Value} {done:List Sz} {cur:Option (Int × List Fld × Option Fld)} (h:Mem w B sv done cur) (hc:Blk.Chg S' w w')
  (hn:∀ e,e = 9 ∨ e = 43 ∨ e = 40 → ∀ C sz u n zs,w.ownsRow C e sz u n zs → B ≤ C → ∀ k,u.ownBlock = some k → ¬ S' k):Mem w' B sv done cur:=by
 obtain ⟨M,N,xs,h0,h1,h2,h3,h4,h5⟩:=h
 have hs:=hc.size
 refine ⟨M,N,xs,by omega,by omega,by omega,hc.owns h3 (hn _ (.inr (.inr rfl)) _ _ _ _ _ h3 (Nat.le_refl _)),h4.chg hc (fun u n zs hu k hk _=>hn _ (.inl rfl) _ _ _ _ _ hu (Nat.le_refl _) k hk) (fun u n zs hu k hk _=>hn _ (.inr (.inl rfl)) _ _ _ _ _ hu (Nat.le_refl _) k hk),?_⟩
 cases cur with
 | none=>trivial
 | some p =>
  obtain ⟨n,fs,last⟩:=p
  obtain ⟨k1,v,ys,k2,k3,k4,k5⟩:=h5
  refine ⟨k1,v,ys,k2,hc.owns k3 (hn _ (.inr (.inl rfl)) _ _ _ _ _ k3 (Nat.le_max_left _ _)),k4.chg hc (fun u n zs hu k hk _=>hn _ (.inl rfl) _ _ _ _ _ hu (Nat.le_refl _) k hk),?_⟩
  cases last with
  | none=>trivial
  | some f =>
   obtain ⟨j1,u,j2,j3⟩:=k5
   exact ⟨j1,u,j2,hc.owns j3 (hn _ (.inl rfl) _ _ _ _ _ j3 (Nat.le_max_left _ _))⟩
theorem Mem.below {w w':World} {B:Nat} {sv:Value} {done:List Sz} {cur:Option (Int × List Fld × Option Fld)} (h:Mem w B sv done cur) (hb:Below w.heap.size w w'):Mem w' B sv done cur :=
 h.chg (S':=fun k=>w.heap.size ≤ k) (Blk.Chg.ofBelow hb fun k _ hk=>hk) fun e _ C sz u n zs hu _ k hk=>by
  have:=own_lt hu hk
  omega
end Stz
end Go.Proofs.YthmpepnikmdjpaaGreatDoor

/-
How many bytes at the beginning are of signs of one kind; what is behind white space. strings.ContainsRune of the grammar's marks at a character that is no ASCII: none of them. What may be an upstream part, a revision; the first and the last of a sign.
-/
import Derived.Test.YthmpepnikmdjpaaGreatDoorCRelDef
import Derived.Test.YthmpepnikmdjpaaGreatDoorShelf
import Derived.Test.YthmpepnikmdjpaaGreatDoorCVerDef
import Derived.Test.YthmpepnikmdjpaaGreatDoorCVerPartK
import Derived.Laws.Runes
import Derived.Deep.QuietTactic
import Derived.StillTailTactics
import Derived.WalkMore
import Derived.WalkKit
import Derived.ProofKit
import Derived.Below
import Derived.Lib.Hide
import Derived.LoopN
import Derived.Deep.LoopGhost
import Derived.Lib.OthersKept
import Derived.IntWalk
namespace Go.Proofs.YthmpepnikmdjpaaGreatDoor
open Go.RowKit
set_option linter.unusedSimpArgs false
set_option linter.unusedVariables false
namespace Rl
open Ver (Bs li li_len li_drop li_ext li_ext_end li_ext_zero sz_high)
open Txt (b b_eq b_lt dec_low dec_high sz on_iff)
def spq (q:Nat → Bool) (l:Bs):Nat:=(l.takeWhile fun c=>q c.toNat).length
theorem spq_cons (q:Nat → Bool) (c:UInt8) (r:Bs):spq q (c :: r) = if q c.toNat = true then spq q r + 1 else 0:=by
 unfold spq
 rw [List.takeWhile_cons]
 split <;> rfl
theorem spq_more {s:ByteArray} {q:Nat → Bool} {k N:Nat} (h:k < s.size) (hk:q (b s k) = true) (hN:k + spq q ((li s).drop k) = N):k + 1 + spq q ((li s).drop (k + 1)) = N:=by
 obtain ⟨c,hc,hb⟩:=li_drop s k h
 rw [hc,spq_cons,hb,if_pos hk] at hN
 omega
theorem spq_stop {s:ByteArray} {q:Nat → Bool} {k N:Nat} (h:k < s.size) (hk:q (b s k) = false) (hN:k + spq q ((li s).drop k) = N):N = k:=by
 obtain ⟨c,hc,hb⟩:=li_drop s k h
 rw [hc,spq_cons,hb,if_neg (by rw [hk]; simp)] at hN
 omega
theorem spq_end {s:ByteArray} {q:Nat → Bool} {k N:Nat} (h:¬ k < s.size) (hN:k + spq q ((li s).drop k) = N):N = k:=by
 rw [List.drop_eq_nil_of_le (by rw [li_len]; omega)] at hN
 exact hN.symm
theorem spq_jump {s:ByteArray} {q:Nat → Bool} {N:Nat}:∀ (n k:Nat),k + n ≤ s.size → (∀ j,j < n → q (b s (k + j)) = true) → k + spq q ((li s).drop k) = N → k + n + spq q ((li s).drop (k + n)) = N
 | 0,_,_,_,h=>h
 | n + 1,k,h1,h2,h=>by
  have e:=spq_more (by omega) (by have:=h2 0 (by omega); rwa [Nat.add_zero] at this) h
  have:=spq_jump n (k + 1) (by omega) (fun j hj=>by have:=h2 (j + 1) (by omega); rwa [show k + (j + 1) = k + 1 + j by omega] at this) e
  rwa [show k + 1 + n = k + (n + 1) by omega] at this
set_option maxRecDepth 100000 in
set_option maxHeartbeats 2000000 in
theorem span_any (f:Nat) (q:Nat → Bool) (hh:Bool) (hq:∀ r,128 ≤ r → q r = hh) (he:∀ (args:Array Value) (w:World),(callFunc f args).run Tryz.prog w = .ok (.enter f args) w) (hf:∀ (r:Nat) w,Calls Tryz.prog f #[.int .i32 r] w fun e w'=>e = .returned (.bool (q r)) ∧ Below w.heap.size w w') (s:ByteArray) (w:World) (hs:s.size ≤ 9223372036854775807) :
  Calls Tryz.prog 284 #[.string s,.func (.func f) #[] #[]] w fun e w'=>e = .returned (.int .i64 (spq q (li s))) ∧ Below w.heap.size w w':=by
 obtain ⟨G,hG⟩:∃ G,spq q (li s) = G:=⟨_,rfl⟩
 have HG:=Lib.hid hG
 rw [hG]
 clear hG
 go_enter Tryz.func284,Tryz.ntmps284
 go_wp2
 go_loopg [] s.size (fun gf wx=>∃ pos:Nat,wx.heap[w.heap.size]? = some (.stringIter s pos) ∧ Below w.heap.size w wx ∧ Hid (pos + spq q ((li s).drop pos) = G) ∧ s.size ≤ pos + gf ∧ pos ≤ s.size)
 case atStart=>exact ⟨0,World.iter_heap w s 0,(Below.refl _ _).alloc (Nat.le_refl _) _,(by rw [List.drop_zero,Nat.zero_add]; exact HG.out),by omega,by omega⟩
 case round =>
  obtain ⟨pos,hit,hbw,HN,hfu,hps⟩:=hrel
  by_cases hlt:pos < s.size
  ·obtain ⟨g',rfl⟩:∃ g',gk = g' + 1:=⟨gk - 1,by omega⟩
   have hnx:∀ ty,(Instr.next (.pointer (some ⟨w.heap.size,0,none⟩)) true ty).run Tryz.prog wr = _:=fun ty=>Lib.run_next_any_at wr w.heap.size s pos ty hit hlt
   obtain ⟨W,hW⟩:∃ W,wr.iterAt w.heap.size s (pos + (Utf8.decode s pos).2) = W:=⟨_,rfl⟩
   have hit2:=Lib.iterAt_heap wr w.heap.size s pos (pos + (Utf8.decode s pos).2) hit
   have hbw2:=Lib.below_iterAt hbw (k:=w.heap.size) (Nat.le_refl _) s (pos + (Utf8.decode s pos).2)
   rw [hW] at hnx hit2 hbw2
   clear hW hit hbw
   have hstep:∃ n R,0 < n ∧ Utf8.decode s pos = (R,n) ∧ pos + n ≤ s.size ∧ (q R = true → ∀ j,j < n → q (b s (pos + j)) = true) ∧ (q R = false → q (b s pos) = false):=by
    by_cases hb:b s pos < 128
    ·refine ⟨1,b s pos,by omega,dec_low s pos hlt hb,by omega,fun h j hj=>?_,fun h=>h⟩
     rw [show j = 0 by omega,Nat.add_zero]; exact h
    ·rcases dec_high s pos hlt (by omega) with ⟨_,hd⟩ | ⟨h1,h2,h3,h4⟩
     ·refine ⟨1,(Utf8.decode s pos).1,by omega,by rw [hd],by omega,fun h j hj=>?_,fun h=>?_⟩
      ·rw [show j = 0 by omega,Nat.add_zero,hq _ (by omega)]
       rw [← h,hd,hq _ (by decide)]
      ·rw [hq _ (by omega)]
       rw [← h,hd,hq _ (by decide)]
     ·refine ⟨sz s pos,(Utf8.decode s pos).1,by omega,by rw [← h3],h2,fun h j hj=>?_,fun h=>?_⟩
      ·rw [hq _ (sz_high s pos (by omega) j hj),← h,hq _ h4]
      ·rw [hq _ (by omega),← h,hq _ h4]
   obtain ⟨n,R,hn0,hd,hnle,hyes,hno⟩:=hstep
   rw [hd] at hnx hit2
   have hc:=hf R
   cases hqr:q R
   ·have hN:=spq_stop hlt (hno hqr) HN.out
    subst hN
    rw [hqr] at hc
    clear HN hyes hno hqr hd hf hq HG
    go_wp2_with fail
    refine (hc _).mono ?_
    rintro e w' ⟨rfl,kb⟩
    go_wp2_with fail
    go_ret
    exact ⟨rfl,hbw2.trans (kb.mono hbw2.size)⟩
   ·have HM:=Lib.hid (spq_jump n pos hnle (hyes hqr) HN.out)
    rw [hqr] at hc
    clear HN hyes hno hqr hd hf hq
    go_wp2_with fail
    refine (hc _).mono ?_
    rintro e w' ⟨rfl,kb⟩
    have hit3:w'.heap[w.heap.size]? = some (.stringIter s (pos + n)):=(kb.block w.heap.size (Array.getElem?_eq_some_iff.1 hit2).1).trans hit2
    have hbw3:=hbw2.trans (kb.mono hbw2.size)
    clear kb hit2 hbw2
    go_wp2_with fail
    go_roundg g'
    case measure=>omega
    case rel=>exact ⟨pos + n,hit3,hbw3,HM,by omega,by omega⟩
  ·have hne:∀ ty,(Instr.next (.pointer (some ⟨w.heap.size,0,none⟩)) true ty).run Tryz.prog wr = _:=fun ty=>Lib.run_next_end_at wr w.heap.size s pos ty hit hlt
   have hN:=spq_end hlt HN.out
   have hN2:G = s.size:=by omega
   subst hN2
   clear HN HG hN hf hq
   go_wp2_with fail
   go_ret
   exact ⟨rfl,hbw⟩
end Rl
end Go.Proofs.YthmpepnikmdjpaaGreatDoor
namespace Go.Proofs.YthmpepnikmdjpaaGreatDoor
open Go.RowKit
set_option linter.unusedSimpArgs false
set_option linter.unusedVariables false
namespace Rl
def marks:ByteArray:=⟨#[44,124,40,41]⟩
theorem indexByte_any (s:ByteArray) (c:Int) (w:World) :
  Calls Tryz.prog 314 #[.string s,.int .u8 c] w fun e w'=>e = .returned (.int .i64 (Lib.indexByte s.data.toList c.toNat.toUInt8)) ∧ w' = w:=Any.strings_IndexByte { Tryz.lays151 with } s c w
theorem validRune_any (r:Int) (w:World):Calls Tryz.prog 315 #[.int .i32 r] w fun e w'=>e = .returned (.bool (Utf8.valid r)) ∧ w' = w:=by
 have hv:Utf8.valid r = decide ((0 ≤ r ∧ r < 55296) ∨ (57343 < r ∧ r ≤ 1114111)):=validRune_eq r
 rw [hv]
 by_cases h0:0 ≤ r
 ·by_cases h1:r < 55296
  ·rw [decide_eq_true (.inl ⟨h0,h1⟩)]
   clear hv
   go_enter Tryz.func315,Tryz.ntmps315
   go_wp2_with fail
   go_ret
   exact ⟨rfl,rfl⟩
  ·by_cases h2:57343 < r
   ·by_cases h3:r ≤ 1114111
    ·rw [decide_eq_true (.inr ⟨h2,h3⟩)]
     clear hv
     go_enter Tryz.func315,Tryz.ntmps315
     go_wp2_with fail
     go_ret
     exact ⟨rfl,rfl⟩
    ·rw [decide_eq_false (by omega)]
     clear hv
     go_enter Tryz.func315,Tryz.ntmps315
     go_wp2_with fail
     go_ret
     exact ⟨rfl,rfl⟩
   ·rw [decide_eq_false (by omega)]
    clear hv
    go_enter Tryz.func315,Tryz.ntmps315
    go_wp2_with fail
    go_ret
    exact ⟨rfl,rfl⟩
 ·rw [decide_eq_false (by omega)]
  have h2:¬ 57343 < r:=by omega
  clear hv
  go_enter Tryz.func315,Tryz.ntmps315
  go_wp2_with fail
  go_ret
  exact ⟨rfl,rfl⟩
theorem no_byte (s:ByteArray) (c:UInt8) (hs:∀ b ∈ s.data.toList,b.toNat < 128) (hc:128 ≤ c.toNat):Lib.indexByte s.data.toList c = -1:=by
 rw [← Lib.firstIdx_eq]
 exact firstIdx_none _ _ fun b hb hbc=>by have:=hs b hb; rw [hbc] at this; omega
theorem marks_low:∀ b ∈ marks.data.toList,b.toNat < 128:=by decide
set_option maxRecDepth 100000 in
set_option maxHeartbeats 4000000 in
theorem indexRune_high (r:Int) (w:World) (hr:128 ≤ r) :
  Calls Tryz.prog 295 #[.string marks,.int .i32 r] w fun e w'=>e = .returned (.int .i64 (-1)) ∧ Below w.heap.size w w':=by
 have h1:¬ r < 128:=by omega
 have h0:0 ≤ r:=by omega
 have hsz:marks.size = 4:=rfl
 by_cases he:r = 65533
 ·subst he
  obtain ⟨s,hs⟩:∃ s,marks = s:=⟨_,rfl⟩
  have hlow:∀ pos,pos < s.size → Txt.b s pos < 128:=fun pos hp=>by
   have:=marks_low
   rw [hs] at this
   rw [Txt.b,dif_pos hp]
   exact this _ (Array.getElem_mem_toList (xs:=s.data) hp)
  rw [hs] at hsz ⊢
  clear hs
  go_enter Tryz.func295,Tryz.ntmps295
  go_wp2
  go_loopg [] s.size (fun gf wx=>∃ pos:Nat,wx.heap[w.heap.size]? = some (.stringIter s pos) ∧ Below w.heap.size w wx ∧ s.size ≤ pos + gf ∧ pos ≤ s.size)
  case atStart=>exact ⟨0,World.iter_heap w s 0,(Below.refl _ _).alloc (Nat.le_refl _) _,by omega,by omega⟩
  case round =>
   obtain ⟨pos,hit,hbw,hfu,hps⟩:=hrel
   by_cases hlt:pos < s.size
   ·obtain ⟨g',rfl⟩:∃ g',gk = g' + 1:=⟨gk - 1,by omega⟩
    have hnx:∀ ty,(Instr.next (.pointer (some ⟨w.heap.size,0,none⟩)) true ty).run Tryz.prog wr = _:=fun ty=>Lib.run_next_any_at wr w.heap.size s pos ty hit hlt
    obtain ⟨W,hW⟩:∃ W,wr.iterAt w.heap.size s (pos + (Utf8.decode s pos).2) = W:=⟨_,rfl⟩
    have hit2:=Lib.iterAt_heap wr w.heap.size s pos (pos + (Utf8.decode s pos).2) hit
    have hbw2:=Lib.below_iterAt hbw (k:=w.heap.size) (Nat.le_refl _) s (pos + (Utf8.decode s pos).2)
    rw [hW] at hnx hit2 hbw2
    have hb:=hlow pos hlt
    rw [Txt.dec_low s pos hlt hb] at hnx hit2
    generalize Txt.b s pos = c at *
    have hne:¬ (c:Int) = 65533:=by omega
    clear hW hit hbw hlow
    go_wp2_with fail
    go_roundg g'
    case measure=>omega
    case rel=>exact ⟨pos + 1,hit2,hbw2,by omega,by omega⟩
   ·have hne:∀ ty,(Instr.next (.pointer (some ⟨w.heap.size,0,none⟩)) true ty).run Tryz.prog wr = _:=fun ty=>Lib.run_next_end_at wr w.heap.size s pos ty hit hlt
    clear hlow
    go_wp2_with fail
    go_ret
    exact ⟨rfl,hbw⟩
 ·cases hv:Utf8.valid r
  ·have cv:=fun w=>validRune_any r w
   rw [hv] at cv
   clear hv
   go_enter Tryz.func295,Tryz.ntmps295
   go_wp2_with fail
   refine (cv _).mono ?_
   rintro e w' ⟨rfl,rfl⟩
   go_wp2_with fail
   go_ret
   exact ⟨rfl,Below.refl _ _⟩
  ·have cv:=fun w=>validRune_any r w
   rw [hv] at cv
   obtain ⟨f1,f2,f3⟩:=encode_facts r hv hr
   have f3':∀ k,k + 1 = (Utf8.encode r).size → 128 ≤ Txt.b (Utf8.encode r) k:=fun k hk=>by
    have h:=f3 (by omega)
    have hk':(Utf8.encode r).size - 1 = k:=by omega
    simp only [hk'] at h
    unfold Txt.b
    rw [dif_pos (by omega)]
    exact h
   clear f3
   obtain ⟨s,hs⟩:∃ s,marks = s:=⟨_,rfl⟩
   have hlow:∀ pos,pos < s.size → Txt.b s pos < 128:=fun pos hp=>by
    have:=marks_low
    rw [hs] at this
    rw [Txt.b,dif_pos hp]
    exact this _ (Array.getElem_mem_toList (xs:=s.data) hp)
   have hio:∀ (k:Nat) (x:Int) (w:World),128 ≤ x → x < 256 → Calls Tryz.prog 314 #[.string (s.extract k s.size),.int .u8 x] w fun e w'=>e = .returned (.int .i64 (-1)) ∧ w' = w:=fun k x w h1 h2=>by
    have c:=indexByte_any (s.extract k s.size) x w
    rw [no_byte _ _ (fun b hb=>by rw [← hs] at hb; exact marks_low b (mem_extract hb)) (by simp [UInt8.toNat_ofNat']; omega)] at c
    exact c
   rw [hs] at hsz ⊢
   clear hs hv
   have hcv:∀ w,(convert 21 9 (.int .i32 r)).run Tryz.prog w = .ok (.string (Utf8.encode r)) w:=fun w=>run_convert_int_string w 21 9 .i32 r (by rw [Tryz.underlying21]; rfl) Tryz.underlying9
   generalize Utf8.encode r = rs at *
   have key:∀ k,k + 1 = rs.size → k = 1 ∨ k = 2 ∨ k = 3 → Calls Tryz.prog 295 #[.string s,.int .i32 r] w fun e w'=>e = .returned (.int .i64 (-1)) ∧ Below w.heap.size w w':=by
    intro k hk hk3
    have hs1:=f3' k hk
    have hs2:=Txt.b_lt rs k
    have hs3:=Txt.b_eq rs k (by omega)
    have hl1:=hlow k (by omega)
    have hks:k < s.size:=by omega
    have hl3:=Txt.b_eq s k hks
    generalize Txt.b rs k = x at *
    generalize Txt.b s k = y at *
    have hxy:¬ (y:Int) = (x:Int):=by omega
    have hkk:(rs.size:Int) - 1 = (k:Int):=by omega
    have hk4:(k:Int) < (s.size:Int):=by omega
    have hk5:(k:Int) < (rs.size:Int):=by omega
    have ho:=fun m w=>hio m x w (by omega) (by omega)
    obtain ⟨m,hm⟩:∃ m,k + 1 = m:=⟨_,rfl⟩
    have hsum:(k:Int) + 1 = (m:Int):=by omega
    have hm2:(m:Int) ≤ s.size:=by omega
    have hwr:IntKind.i64.wrap (m:Int) = (m:Int):=IntWalk.i64_in _ (by omega)
    clear hsz
    clear hio hlow f3'
    go_enter Tryz.func295,Tryz.ntmps295
    go_wp2_with fail
    refine (cv _).mono ?_
    rintro e w' ⟨rfl,rfl⟩
    go_wp2_with fail
    go_step3
    go_wp2_with fail
    refine wp_loop_rounds 2 ?_
    rw [rounds_succ]
    go_wp2_with fail
    go_step3
    go_wp2_with fail
    go_quiet (fail)
    have kq:=Ver.below_drewN w' nq
    generalize w'.drewN nq = wd at *
    go_wp2_with fail
    go_quiet ((with_reducible exact Calls.quiet_of_same (ho _ _)))
    have kq2:Below w'.heap.size w' (wd.drewN nq):=kq.trans ((Ver.below_drewN wd nq).mono kq.size)
    generalize wd.drewN nq = we at *
    go_wp2_with fail
    simp only [Exit.noGoto_ret]
    simp only [Exit.inBlock,Exit.then,Exit.noGoto_ret]
    go_ret
    exact ⟨rfl,kq2⟩
   have h4:rs.size = 2 ∨ rs.size = 3 ∨ rs.size = 4:=by omega
   exact key (rs.size - 1) (by omega) (by omega)
end Rl
end Go.Proofs.YthmpepnikmdjpaaGreatDoor
namespace Go.Proofs.YthmpepnikmdjpaaGreatDoor
open Go.RowKit
set_option linter.unusedSimpArgs false
set_option linter.unusedVariables false
namespace Ver
open Txt (b b_eq b_lt dec_low dec_high)
theorem all_bytes (p:UInt8 → Bool) (q:Nat → Bool) (h:∀ c:UInt8,p c = q c.toNat) (s:ByteArray):(li s).all p = true ↔ ∀ j,j < s.size → q (b s j) = true:=by
 rw [List.all_eq_true]
 constructor
 ·intro k j hj
  obtain ⟨c,hc,hb⟩:=li_drop s j hj
  have:c ∈ li s:=List.mem_of_mem_drop (i:=j) (by rw [hc]; exact .head _)
  rw [← hb,← h]; exact k c this
 ·intro k c hc
  obtain ⟨j,hj,rfl⟩:=List.mem_iff_getElem.1 hc
  have hj':j < s.size:=by rw [← li_len]; exact hj
  have:=k j hj'
  rw [h]
  unfold b at this
  rw [dif_pos hj'] at this
  exact this
def upP (s:ByteArray):Prop:=0 < s.size ∧ digN (b s 0) = true ∧ ∀ j,j < s.size → upsN (b s j) = true
instance (s:ByteArray):Decidable (upP s):=inferInstanceAs (Decidable (_ ∧ _))
theorem up_is (s:ByteArray):upOK (li s) = decide (upP s):=by
 rw [Bool.eq_iff_iff,decide_eq_true_eq]
 unfold upP
 rw [← all_bytes ups upsN ups_n]
 by_cases h0:s.size = 0
 ·rw [(empty_is h0).2]
  simp [upOK]; omega
 ·obtain ⟨c,hc,hb⟩:=li_drop s 0 (by omega)
  rw [List.drop_zero] at hc
  rw [hc,← hb]
  show (dig c && _) = true ↔ _
  rw [← dig_n]
  simp
  omega
def rvP (s:ByteArray):Prop:=0 < s.size ∧ ∀ j,j < s.size → sigN (b s j) = true
instance (s:ByteArray):Decidable (rvP s):=inferInstanceAs (Decidable (_ ∧ _))
theorem rv_is (s:ByteArray):(li s ≠ [] ∧ (li s).all sig = true) ↔ rvP s:=by
 unfold rvP
 rw [← all_bytes sig sigN sig_n]
 have:li s ≠ [] ↔ 0 < s.size:=by
  rw [← li_len]; exact ⟨fun h=>List.length_pos_iff.2 h,fun h=>List.length_pos_iff.1 h⟩
 rw [this]
theorem dig_sig {c:Nat} (h:digN c = true):sigN c = true:=by unfold sigN; rw [h]; simp
theorem high_sig {c:Nat} (h:128 ≤ c):sigN c = false:=by unfold sigN alfN smlN digN; simp; omega
theorem high_ups {c:Nat} (h:128 ≤ c):upsN c = false:=by unfold upsN; rw [high_sig h]; simp; omega
theorem high_dig {c:Nat} (h:128 ≤ c):digN c = false:=by unfold digN; simp; omega
theorem more {p:Nat → Bool} {i:Nat} (h:∀ j,j < i → p j = true) (hi:p i = true):∀ j,j < i + 1 → p j = true:=fun j hj=>by
 by_cases e:j = i
 ·subst e; exact hi
 ·exact h j (by omega)
set_option maxRecDepth 100000 in
set_option maxHeartbeats 2000000 in
theorem isRevision_any (s:ByteArray) (w:World) (hs:s.size ≤ 9223372036854775807) :
  Calls Tryz.prog 187 #[.string s] w fun e w'=>e = .returned (.bool (decide (rvP s))) ∧ Below w.heap.size w w':=by
 obtain ⟨G,hG⟩:∃ G,decide (rvP s) = G:=⟨_,rfl⟩
 have HG:=Lib.hid hG
 rw [hG]
 clear hG
 go_enter Tryz.func187,Tryz.ntmps187
 go_wp2
 go_loopg [] s.size (fun gf wx=>∃ pos:Nat,wx.heap[w.heap.size]? = some (.stringIter s pos) ∧ Below w.heap.size w wx ∧ Hid (∀ j,j < pos → sigN (b s j) = true) ∧ s.size ≤ pos + gf ∧ pos ≤ s.size)
 case atStart=>exact ⟨0,World.iter_heap w s 0,(Below.refl _ _).alloc (Nat.le_refl _) _,fun j hj=>by omega,by omega,by omega⟩
 case round =>
  obtain ⟨pos,hit,hbw,HN,hfu,hps⟩:=hrel
  by_cases hlt:pos < s.size
  ·obtain ⟨g',rfl⟩:∃ g',gk = g' + 1:=⟨gk - 1,by omega⟩
   have hnx:∀ ty,(Instr.next (.pointer (some ⟨w.heap.size,0,none⟩)) true ty).run Tryz.prog wr = _:=fun ty=>Lib.run_next_any_at wr w.heap.size s pos ty hit hlt
   obtain ⟨W,hW⟩:∃ W,wr.iterAt w.heap.size s (pos + (Utf8.decode s pos).2) = W:=⟨_,rfl⟩
   have hit2:=Lib.iterAt_heap wr w.heap.size s pos (pos + (Utf8.decode s pos).2) hit
   have hbw2:=Lib.below_iterAt hbw (k:=w.heap.size) (Nat.le_refl _) s (pos + (Utf8.decode s pos).2)
   rw [hW] at hnx hit2 hbw2
   clear hW hit hbw
   by_cases hb:b s pos < 128
   ·rw [dec_low s pos hlt hb] at hnx hit2
    have hm:=fun h=>more (p:=fun j=>sigN (b s j)) HN.out h
    have ht:sigN (b s pos) = false → G = false:=fun h=>by
     rw [← HG.out]; exact decide_eq_false fun k=>by have:=k.2 pos hlt; rw [h] at this; cases this
    obtain ⟨c,hc⟩:∃ c,b s pos = c:=⟨_,rfl⟩
    rw [hc] at hnx hb hm ht
    clear hc
    go_wp2_with fail
    refine (isSign_any _ _).mono ?_
    rintro e w' ⟨rfl,rfl⟩
    cases hd:sigN c
    ·obtain rfl:=ht hd
     clear hm ht hd HN HG
     go_wp2_with fail
     go_ret
     exact ⟨rfl,hbw2⟩
    ·have HM:=Lib.hid (hm hd)
     clear hm ht hd HN
     go_wp2_with fail
     go_roundg g'
     case measure=>omega
     case rel=>exact ⟨pos + 1,hit2,hbw2,HM,by omega,by omega⟩
   ·have hr:128 ≤ (Utf8.decode s pos).1:=by
     rcases dec_high s pos hlt (by omega) with ⟨_,hd⟩ | ⟨_,_,_,hr⟩
     ·rw [hd]; decide
     ·exact hr
    have hF:G = false:=by
     rw [← HG.out]; exact decide_eq_false fun k=>by have:=k.2 pos hlt; rw [high_sig (by omega)] at this; cases this
    subst hF
    obtain ⟨R,hR⟩:∃ R,(Utf8.decode s pos).1 = R:=⟨_,rfl⟩
    rw [hR] at hnx hr
    obtain ⟨N,hNN⟩:∃ N,(Utf8.decode s pos).2 = N:=⟨_,rfl⟩
    rw [hNN] at hit2
    clear hR HG hNN HN
    go_wp2_with fail
    refine (isSign_any _ _).mono ?_
    rintro e w' ⟨rfl,rfl⟩
    rw [high_sig hr]
    go_wp2_with fail
    go_ret
    exact ⟨rfl,hbw2⟩
  ·have hne:∀ ty,(Instr.next (.pointer (some ⟨w.heap.size,0,none⟩)) true ty).run Tryz.prog wr = _:=fun ty=>Lib.run_next_end_at wr w.heap.size s pos ty hit hlt
   by_cases h0:s.size = 0
   ·obtain ⟨e1,_⟩:=empty_is h0
    have hG:G = false:=by rw [← HG.out]; exact decide_eq_false fun k=>by have:=k.1; omega
    subst hG
    clear HN HG
    go_wp2_with fail
    go_ret
    exact ⟨rfl,hbw⟩
   ·obtain ⟨e1,_⟩:=empty_no h0
    have hG:G = true:=by rw [← HG.out]; exact decide_eq_true ⟨by omega,fun j hj=>HN.out j (by omega)⟩
    subst hG
    clear HN HG
    go_wp2_with fail
    go_ret
    exact ⟨rfl,hbw⟩
set_option maxRecDepth 100000 in
set_option maxHeartbeats 2000000 in
theorem isUpstream_any (s:ByteArray) (w:World) (hs:s.size ≤ 9223372036854775807) :
  Calls Tryz.prog 140 #[.string s] w fun e w'=>e = .returned (.bool (decide (upP s))) ∧ Below w.heap.size w w':=by
 obtain ⟨G,hG⟩:∃ G,decide (upP s) = G:=⟨_,rfl⟩
 have HG:=Lib.hid hG
 rw [hG]
 clear hG
 go_enter Tryz.func140,Tryz.ntmps140
 go_wp2
 go_loopg [] s.size (fun gf wx=>∃ pos:Nat,wx.heap[w.heap.size]? = some (.stringIter s pos) ∧ Below w.heap.size w wx ∧ Hid ((∀ j,j < pos → upsN (b s j) = true) ∧ (0 < pos → digN (b s 0) = true)) ∧ s.size ≤ pos + gf ∧ pos ≤ s.size)
 case atStart=>exact ⟨0,World.iter_heap w s 0,(Below.refl _ _).alloc (Nat.le_refl _) _,⟨fun j hj=>by omega,fun h=>by omega⟩,by omega,by omega⟩
 case round =>
  obtain ⟨pos,hit,hbw,HN,hfu,hps⟩:=hrel
  by_cases hlt:pos < s.size
  ·obtain ⟨g',rfl⟩:∃ g',gk = g' + 1:=⟨gk - 1,by omega⟩
   have hnx:∀ ty,(Instr.next (.pointer (some ⟨w.heap.size,0,none⟩)) true ty).run Tryz.prog wr = _:=fun ty=>Lib.run_next_any_at wr w.heap.size s pos ty hit hlt
   obtain ⟨W,hW⟩:∃ W,wr.iterAt w.heap.size s (pos + (Utf8.decode s pos).2) = W:=⟨_,rfl⟩
   have hit2:=Lib.iterAt_heap wr w.heap.size s pos (pos + (Utf8.decode s pos).2) hit
   have hbw2:=Lib.below_iterAt hbw (k:=w.heap.size) (Nat.le_refl _) s (pos + (Utf8.decode s pos).2)
   rw [hW] at hnx hit2 hbw2
   have hpz:(pos:Int) = 0 ∨ ¬ (pos:Int) = 0:=by omega
   clear hW hit hbw
   by_cases hb:b s pos < 128
   ·rw [dec_low s pos hlt hb] at hnx hit2
    rcases hpz with hz | hz
    ·have hz0:pos = 0:=by omega
     subst hz0
     have hm:digN (b s 0) = true → (∀ j,j < 0 + 1 → upsN (b s j) = true) ∧ (0 < 0 + 1 → digN (b s 0) = true):=fun h=>by
      refine ⟨fun j hj=>?_,fun _=>h⟩
      have hj0:j = 0:=by omega
      subst hj0
      unfold upsN
      rw [dig_sig h]
      simp
     have ht:digN (b s 0) = false → G = false:=fun h=>by
      rw [← HG.out]; exact decide_eq_false fun k=>by have:=k.2.1; rw [h] at this; cases this
     obtain ⟨c,hc⟩:∃ c,b s 0 = c:=⟨_,rfl⟩
     rw [hc] at hnx hb ht
     have HM:=Lib.hid hm
     have HC:=Lib.hid hc
     clear hc hm HN
     cases hd:digN c
     ·obtain rfl:=ht hd
      have cd:=isDigit_any c W
      rw [hd] at cd
      clear HM HC ht hd HG
      go_wp2_with fail
      refine cd.mono ?_
      rintro e w' ⟨rfl,rfl⟩
      go_wp2_with fail
      go_ret
      exact ⟨rfl,hbw2⟩
     ·have HM2:=Lib.hid (HM.out (by rw [HC.out]; exact hd))
      have cd:=isDigit_any c W
      have cs:=isSign_any c W
      rw [hd] at cd
      rw [dig_sig hd] at cs
      clear HM HC ht hd
      go_wp2_with fail
      refine cd.mono ?_
      rintro e w' ⟨rfl,rfl⟩
      go_wp2_with fail
      refine cs.mono ?_
      rintro e w' ⟨rfl,rfl⟩
      go_wp2_with fail
      go_roundg g'
      case measure=>omega
      case rel=>exact ⟨0 + 1,hit2,hbw2,HM2,by omega,by omega⟩
    ·have hm:upsN (b s pos) = true → (∀ j,j < pos + 1 → upsN (b s j) = true) ∧ (0 < pos + 1 → digN (b s 0) = true):=fun h=>⟨more (p:=fun j=>upsN (b s j)) HN.out.1 h,fun _=>HN.out.2 (by omega)⟩
     have ht:upsN (b s pos) = false → G = false:=fun h=>by
      rw [← HG.out]; exact decide_eq_false fun k=>by have:=k.2.2 pos hlt; rw [h] at this; cases this
     have hups:upsN (b s pos) = (sigN (b s pos) || decide (b s pos = 45) || decide (b s pos = 58)):=rfl
     have HM:=Lib.hid hm
     clear hm
     obtain ⟨c,hc⟩:∃ c,b s pos = c:=⟨_,rfl⟩
     have HMC:Hid (upsN c = true → (∀ j,j < pos + 1 → upsN (b s j) = true) ∧ (0 < pos + 1 → digN (b s 0) = true)):=by rw [← hc]; exact HM
     rw [hc] at hnx hb ht hups
     clear hc HN HM
     have cs:=isSign_any c W
     cases hd:sigN c
     ·rw [hd] at cs hups
      by_cases h45:c = 45
      ·subst h45
       have HM2:=Lib.hid (HMC.out hups)
       clear HMC ht hd hups
       go_wp2_with fail
       refine cs.mono ?_
       rintro e w' ⟨rfl,rfl⟩
       go_wp2_with fail
       go_roundg g'
       case measure=>omega
       case rel=>exact ⟨pos + 1,hit2,hbw2,HM2,by omega,by omega⟩
      ·by_cases h58:c = 58
       ·subst h58
        have HM2:=Lib.hid (HMC.out hups)
        clear HMC ht hd hups
        go_wp2_with fail
        refine cs.mono ?_
        rintro e w' ⟨rfl,rfl⟩
        go_wp2_with fail
        go_roundg g'
        case measure=>omega
        case rel=>exact ⟨pos + 1,hit2,hbw2,HM2,by omega,by omega⟩
       ·obtain rfl:=ht (by rw [hups]; simp [h45,h58])
        have q1:((c:Int) != 45) = true:=by simp; omega
        have q2:((c:Int) != 58) = true:=by simp; omega
        clear HMC ht hd hups HG
        go_wp2_with fail
        refine cs.mono ?_
        rintro e w' ⟨rfl,rfl⟩
        go_wp2_with fail
        go_ret
        exact ⟨rfl,hbw2⟩
     ·rw [hd] at cs hups
      have HM2:=Lib.hid (HMC.out hups)
      clear HMC ht hd hups
      go_wp2_with fail
      refine cs.mono ?_
      rintro e w' ⟨rfl,rfl⟩
      go_wp2_with fail
      go_roundg g'
      case measure=>omega
      case rel=>exact ⟨pos + 1,hit2,hbw2,HM2,by omega,by omega⟩
   ·have hr:128 ≤ (Utf8.decode s pos).1:=by
     rcases dec_high s pos hlt (by omega) with ⟨_,hd⟩ | ⟨_,_,_,hr⟩
     ·rw [hd]; decide
     ·exact hr
    have hF:G = false:=by
     rw [← HG.out]; exact decide_eq_false fun k=>by have:=k.2.2 pos hlt; rw [high_ups (by omega)] at this; cases this
    subst hF
    obtain ⟨R,hR⟩:∃ R,(Utf8.decode s pos).1 = R:=⟨_,rfl⟩
    rw [hR] at hnx hr
    obtain ⟨N,hNN⟩:∃ N,(Utf8.decode s pos).2 = N:=⟨_,rfl⟩
    rw [hNN] at hit2
    have cd:=isDigit_any R W
    have cs:=isSign_any R W
    rw [high_dig hr] at cd
    rw [high_sig hr] at cs
    have q1:((R:Int) != 45) = true:=by simp; omega
    have q2:((R:Int) != 58) = true:=by simp; omega
    clear hR HG hNN HN
    rcases hpz with hz | hz
    ·go_wp2_with fail
     refine cd.mono ?_
     rintro e w' ⟨rfl,rfl⟩
     go_wp2_with fail
     go_ret
     exact ⟨rfl,hbw2⟩
    ·go_wp2_with fail
     refine cs.mono ?_
     rintro e w' ⟨rfl,rfl⟩
     go_wp2_with fail
     go_ret
     exact ⟨rfl,hbw2⟩
  ·have hne:∀ ty,(Instr.next (.pointer (some ⟨w.heap.size,0,none⟩)) true ty).run Tryz.prog wr = _:=fun ty=>Lib.run_next_end_at wr w.heap.size s pos ty hit hlt
   by_cases h0:s.size = 0
   ·obtain ⟨e1,_⟩:=empty_is h0
    have hG:G = false:=by rw [← HG.out]; exact decide_eq_false fun k=>by have:=k.1; omega
    subst hG
    clear HN HG
    go_wp2_with fail
    go_ret
    exact ⟨rfl,hbw⟩
   ·obtain ⟨e1,_⟩:=empty_no h0
    have hG:G = true:=by rw [← HG.out]; exact decide_eq_true ⟨by omega,HN.out.2 (by omega),fun j hj=>HN.out.1 j (by omega)⟩
    subst hG
    clear HN HG
    go_wp2_with fail
    go_ret
    exact ⟨rfl,hbw⟩
/-! ### the first,the last of a sign -/
theorem cut1_of:∀ (x:UInt8) (a r:Bs),x ∉ a → cut1 x (a ++ x :: r) = some (a,r)
 | x,[],r,_=>by simp [cut1]
 | x,c :: a,r,h=>by
  have hc:c ≠ x:=fun e=>h (by rw [e]; exact .head _)
  show cut1 x (c :: (a ++ x :: r)) = _
  rw [cut1,if_neg hc,cut1_of x a r fun k=>h (.tail _ k)]
  rfl
theorem cut1_no:∀ (x:UInt8) (l:Bs),x ∉ l → cut1 x l = none
 | _,[],_=>rfl
 | x,c :: l,h=>by
  have hc:c ≠ x:=fun e=>h (by rw [e]; exact .head _)
  rw [cut1,if_neg hc,cut1_no x l fun k=>h (.tail _ k)]
  rfl
theorem cutZ_no:∀ (x:UInt8) (l:Bs),x ∉ l → cutZ x l = none
 | _,[],_=>rfl
 | x,c :: l,h=>by
  have hc:c ≠ x:=fun e=>h (by rw [e]; exact .head _)
  rw [cutZ,cutZ_no x l fun k=>h (.tail _ k)]
  simp [hc]
theorem cutZ_of:∀ (x:UInt8) (a r:Bs),x ∉ r → cutZ x (a ++ x :: r) = some (a,r)
 | x,[],r,h=>by
  show cutZ x (x :: r) = _
  rw [cutZ,cutZ_no x r h]; simp
 | x,c :: a,r,h=>by
  show cutZ x (c :: (a ++ x :: r)) = _
  rw [cutZ,cutZ_of x a r h]
theorem no_mem {s:ByteArray} {x:UInt8} {i j:Nat} (h:∀ k,i ≤ k → k < j → k < s.size → b s k ≠ x.toNat):x ∉ ((li s).drop i).take (j - i):=by
 intro hm
 obtain ⟨k,hk,he⟩:=List.mem_iff_getElem.1 hm
 rw [List.length_take,List.length_drop,li_len] at hk
 rw [List.getElem_take,List.getElem_drop] at he
 have hs:i + k < s.size:=by omega
 apply h (i + k) (by omega) (by omega) hs
 unfold b
 rw [dif_pos hs,← he]
 rfl
theorem cut1_at {s:ByteArray} {x:UInt8} {i:Nat} (hi:i < s.size) (hx:b s i = x.toNat) (h:∀ j,j < i → b s j ≠ x.toNat):cut1 x (li s) = some ((li s).take i,(li s).drop (i + 1)):=by
 obtain ⟨c,hc,hb⟩:=li_drop s i hi
 have hcx:c = x:=UInt8.toNat_inj.1 (hb.trans hx)
 have e:li s = (li s).take i ++ x :: (li s).drop (i + 1):=by
  rw [← hcx,← hc,List.take_append_drop]
 have hn:=no_mem (s:=s) (x:=x) (i:=0) (j:=i) fun k _ hk _=>h k hk
 rw [List.drop_zero,Nat.sub_zero] at hn
 conv=>lhs; rw [e]
 exact cut1_of x _ _ hn
theorem cut1_none {s:ByteArray} {x:UInt8} (h:∀ j,j < s.size → b s j ≠ x.toNat):cut1 x (li s) = none:=by
 have hn:=no_mem (s:=s) (x:=x) (i:=0) (j:=s.size) fun k _ hk _=>h k hk
 rw [List.drop_zero,Nat.sub_zero,List.take_of_length_le (by rw [li_len]; exact Nat.le_refl _)] at hn
 exact cut1_no x _ hn
theorem cutZ_at {s:ByteArray} {x:UInt8} {i:Nat} (hi:i < s.size) (hx:b s i = x.toNat) (h:∀ j,i < j → j < s.size → b s j ≠ x.toNat):cutZ x (li s) = some ((li s).take i,(li s).drop (i + 1)):=by
 obtain ⟨c,hc,hb⟩:=li_drop s i hi
 have hcx:c = x:=UInt8.toNat_inj.1 (hb.trans hx)
 have e:li s = (li s).take i ++ x :: (li s).drop (i + 1):=by
  rw [← hcx,← hc,List.take_append_drop]
 have hn:=no_mem (s:=s) (x:=x) (i:=i + 1) (j:=s.size) fun k hk1 hk2 _=>h k (by omega) hk2
 rw [List.take_of_length_le (by rw [List.length_drop,li_len]; exact Nat.le_refl _)] at hn
 conv=>lhs; rw [e]
 exact cutZ_of x _ _ hn
theorem cutZ_none {s:ByteArray} {x:UInt8} (h:∀ j,j < s.size → b s j ≠ x.toNat):cutZ x (li s) = none:=by
 have hn:=no_mem (s:=s) (x:=x) (i:=0) (j:=s.size) fun k _ hk _=>h k hk
 rw [List.drop_zero,Nat.sub_zero,List.take_of_length_le (by rw [li_len]; exact Nat.le_refl _)] at hn
 exact cutZ_no x _ hn
end Ver
end Go.Proofs.YthmpepnikmdjpaaGreatDoor

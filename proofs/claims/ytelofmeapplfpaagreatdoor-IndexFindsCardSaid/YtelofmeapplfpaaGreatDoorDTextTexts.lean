/-
Rows of bytes: what a slice of bytes reads as; rows of the call's own; what an append of them leaves. Written packages and entries are read back as they were; their texts may be printed. Slices of strings that are read alone; the contract of the reference's SameTexts; append of one string.
-/
import Derived.Test.YtelofmeapplfpaaGreatDoorDTextUtf
import Derived.Test.YtelofmeapplfpaaGreatDoorProg
import Derived.IntWalk
import Derived.OpenShut
import Derived.Test.YtelofmeapplfpaaGreatDoorDRelSingles
import Derived.Test.YtelofmeapplfpaaGreatDoorDRelUni
import Derived.Test.YtelofmeapplfpaaGreatDoorDTextSmallK
import Derived.Test.YtelofmeapplfpaaGreatDoorShelf
import Derived.Test.YtelofmeapplfpaaGreatDoorDRecMay
import Derived.Test.YtelofmeapplfpaaGreatDoorDReg
import Derived.Lib.AppendIntMem
import Derived.Deep.QuietTactic
import Derived.Test.YtelofmeapplfpaaGreatDoorDRelDef
import Derived.Laws.Concat
import Derived.StillTailTactics
import Derived.Lib.SlBytesConst
import Derived.Deep.RegionHeld3
import Derived.BigQuiet
namespace Go.Proofs.YtelofmeapplfpaaGreatDoor
open Go.RowKit
set_option linter.unusedVariables false

def bcells (zs:List Int):List Value:=zs.map (Value.int .u8)
@[simp] theorem bcells_length (zs:List Int):(bcells zs).length = zs.length:=by simp [bcells]
def Byte (zs:List Int):Prop:=∀ z ∈ zs,0 ≤ z ∧ z < 256
theorem Byte.getD {zs:List Int} (h:Byte zs) (i:Nat):0 ≤ zs.getD i 0 ∧ zs.getD i 0 < 256:=by
 by_cases hi:i < zs.length
 ·exact h _ (by simp [hi])
 ·simp [List.getD,List.getElem?_eq_none (show zs.length ≤ i by omega)]
theorem Byte.take {zs:List Int} (h:Byte zs) (k:Nat):Byte (zs.take k):=fun z hz=>h z (List.mem_of_mem_take hz)
theorem Byte.drop {zs:List Int} (h:Byte zs) (k:Nat):Byte (zs.drop k):=fun z hz=>h z (List.mem_of_mem_drop hz)
theorem Byte.append {xs zs:List Int} (h:Byte xs) (k:Byte zs):Byte (xs ++ zs):=fun z hz=>(List.mem_append.1 hz).elim (h z) (k z)
theorem Byte.nil:Byte []:=by simp [Byte]

structure Row (w:World) (a:Option Addr) (len:Nat) (zs:List Int):Prop where
 count:zs.length = len
 short:len ≤ 9223372036854775807
 byt:Byte zs
 cells:0 < len → ∃ b off,a = some ⟨b,off,none⟩ ∧ b < w.heap.size ∧ ∀ j,j < len → w.cell? ⟨b,off + j,none⟩ = some (.int .u8 (zs.getD j 0))

theorem Row.keep {w w':World} {a len zs} (h:Row w a len zs) {S:Nat → Prop} (hb:Blk.Chg S w w') (hn:0 < len → ∀ b off,a = some ⟨b,off,none⟩ → ¬ S b):Row w' a len zs :=
 ⟨h.count,h.short,h.byt,fun hl=>by
  obtain ⟨b,off,ha,hlt,hc⟩:=h.cells hl
  exact ⟨b,off,ha,Nat.lt_of_lt_of_le hlt hb.size,fun j hj=>by rw [World.cell?_of_block (hb.block b hlt (hn hl b off ha))]; exact hc j hj⟩⟩
theorem Row.below {w w':World} {a len zs} (h:Row w a len zs) (hb:Below w.heap.size w w'):Row w' a len zs :=
 h.keep (S:=fun _=>False) (Blk.Chg.ofBelow' hb) (by simp)
theorem Row.nil (w:World):Row w none 0 []:=⟨rfl,by omega,by simp [Byte],by omega⟩
theorem Row.empty (w:World) (a:Option Addr):Row w a 0 []:=⟨rfl,by omega,by simp [Byte],by omega⟩
theorem Row.take {w:World} {a len zs} (h:Row w a len zs) (k:Nat) (hk:k ≤ len):Row w a k (zs.take k):=by
 have:=h.count
 refine ⟨by rw [List.length_take]; omega,by have:=h.short; omega,h.byt.take k,fun h0=>?_⟩
 obtain ⟨b,off,ha,hb,hc⟩:=h.cells (by omega)
 refine ⟨b,off,ha,hb,fun j hj=>?_⟩
 rw [hc j (by omega)]
 simp [hj]
end Go.Proofs.YtelofmeapplfpaaGreatDoor
namespace Go.Proofs.YtelofmeapplfpaaGreatDoor
open Go.RowKit
set_option linter.unusedSimpArgs false
set_option linter.unusedVariables false
namespace Rc
open Rl (may)
theorem orI_all:∀ {l:List Int},(∀ x ∈ l,x = 0) → orI l = 0
 | [],_=>rfl
 | y :: l,h=>by
  unfold orI
  rw [if_neg (by simpa using h y (by simp))]
  exact orI_all fun x hx=>h x (List.mem_cons_of_mem _ hx)
end Rc
end Go.Proofs.YtelofmeapplfpaaGreatDoor
namespace Go.Proofs.YtelofmeapplfpaaGreatDoor
open Go.RowKit
set_option linter.unusedVariables false
set_option linter.unusedSimpArgs false
namespace Txt
def Texts (w:World) (v:Value) (ls:List ByteArray):Prop :=
 ls.length ≤ 4611686018427387904 ∧ ∃ a cap,v = .slice a ls.length cap ∧ ls.length ≤ cap ∧ (0 < ls.length → ∃ b off,a = some ⟨b,off,none⟩ ∧ ∀ i,i < ls.length → w.cell? ⟨b,off + i,none⟩ = some (.string (ls.getD i ByteArray.empty)))
theorem Texts.below {w w':World} {v ls} (h:Texts w v ls) (hb:Below w.heap.size w w'):Texts w' v ls:=by
 obtain ⟨h0,a,cap,h1,hc,h2⟩:=h
 exact ⟨h0,a,cap,h1,hc,fun hl=>by
  obtain ⟨b,off,h3,h4⟩:=h2 hl
  exact ⟨b,off,h3,fun i hi=>by rw [hb.cell (lt_cell (h4 i hi))]; exact h4 i hi⟩⟩
theorem Texts.none (w:World):Texts w (.slice none 0 0) []:=⟨by simp,_,_,rfl,Nat.le_refl _,fun h=>absurd h (by simp)⟩
theorem Texts.empty (w:World) (a:Option Addr) (c:Nat):Texts w (.slice a 0 c) []:=⟨by simp,_,_,rfl,by simp,fun h=>absurd h (by simp)⟩
theorem Texts.owned {w:World} {B:Nat} {v:Value} {ls:List ByteArray} (h:w.ownsRow B 9 1 v ls.length (ls.map Value.string)) (hl:ls.length ≤ 4611686018427387904):Texts w v ls:=by
 refine ⟨hl,?_⟩
 rcases id h.2 with ⟨rfl,h0⟩ | ⟨g,cap,cur,rfl,_,hh,hle,hcap,hsz,htake⟩
 ·have:ls = []:=List.length_eq_zero_iff.1 h0
  subst this
  exact ⟨Option.none,0,rfl,Nat.le_refl _,fun h=>absurd h (by simp)⟩
 ·refine ⟨_,_,rfl,hle,fun _=>⟨g,0,rfl,fun i hi=>?_⟩⟩
  have:=h.cells (g:=g) rfl i (.string (ls.getD i ByteArray.empty)) (by simp [hi])
  rw [Nat.zero_add]
  have e:(⟨g,0,Option.none⟩:Addr).add i = ⟨g,i,Option.none⟩:=by cases i <;> simp [Addr.add]
  rw [e] at this
  exact this
theorem drewN_below (w:World) (n:Nat):Below w.heap.size w (w.drewN n):=⟨rfl,rfl,rfl,Nat.le_refl _,fun _ _=>rfl⟩
theorem str_beq (x y:ByteArray):(x.toList == y.toList) = decide (x = y):=by
 rw [Bool.eq_iff_iff]
 simp only [beq_iff_eq,decide_eq_true_eq]
 rw [Lib.toList_data,Lib.toList_data]
 constructor
 ·intro h
  exact ByteArray.ext (Array.ext' h)
 ·rintro rfl; rfl
set_option maxRecDepth 100000 in
set_option maxHeartbeats 2000000 in
theorem sameTexts_any (v1 v2:Value) (ls ms:List ByteArray) (w:World) (h1:Texts w v1 ls) (h2:Texts w v2 ms) :
  Calls Tryz.prog 20 #[v1,v2] w fun e w'=>e = .returned (.bool (decide (ls = ms))) ∧ Below w.heap.size w w':=by
 obtain ⟨s1,a1,c1,rfl,hc1,p1⟩:=h1
 obtain ⟨s2,a2,c2,rfl,hc2,p2⟩:=h2
 have P1:=Lib.hid p1
 have P2:=Lib.hid p2
 clear p1 p2
 by_cases hl:ls.length = ms.length
 ·have heq:((ls.length:Int) != (ms.length:Int)) = false:=by simp [hl]
  obtain ⟨n,hn⟩:∃ n,ls.length = n:=⟨_,rfl⟩
  have hm:ms.length = n:=by omega
  have HL:=Lib.hid hn
  have HM:=Lib.hid hm
  rw [hn] at s1 P1
  rw [hm] at P2
  rw [hn,hm] at heq
  rw [hn,hm]
  clear hn hm hl s2 hc1 hc2
  go_enter Tryz.func20,Tryz.ntmps20
  go_wp2_with fail
  go_loopw [13] (fun i u=>∃ k:Nat,k ≤ n ∧ i = .int .i64 k ∧ (∀ j,j < k → ls.getD j ByteArray.empty = ms.getD j ByteArray.empty) ∧ Below w.heap.size w u) (fun i _=>n - (intOf i).toNat)
  case atStart=>exact ⟨0,by omega,rfl,fun j hj=>absurd hj (by omega),Below.refl _ _⟩
  case round =>
   obtain ⟨k,hk,rfl,hsame,hb⟩:=hrel
   have HS:=Lib.hid hsame
   clear hsame
   by_cases hlt:k < n
   ·obtain ⟨b1,o1,rfl,q1⟩:=P1.out (by omega)
    obtain ⟨b2,o2,rfl,q2⟩:=P2.out (by omega)
    have x1:=q1 k hlt
    have y1:=q2 k hlt
    rw [← hb.cell (lt_cell x1)] at x1
    rw [← hb.cell (lt_cell y1)] at y1
    have k0:(0:Int) ≤ k:=by omega
    have k1:(k:Int) < n:=by omega
    obtain ⟨X,hX⟩:∃ X,ls.getD k ByteArray.empty = X:=⟨_,rfl⟩
    obtain ⟨Y,hY⟩:∃ Y,ms.getD k ByteArray.empty = Y:=⟨_,rfl⟩
    have hbeq:=str_beq X Y
    rw [hX] at x1
    rw [hY] at y1
    have HX:=Lib.hid hX
    have HY:=Lib.hid hY
    have HBE:=Lib.hid hb
    clear q1 q2 hX hY hb
    by_cases hxy:X = Y
    ·rw [show decide (X = Y) = true by simpa using hxy] at hbeq
     have HXY:=Lib.hid hxy
     clear hxy
     go_wp2_with fail
     go_quiet (fail)
     go_wp2
     refine ⟨⟨k + 1,by omega,by go_num,fun j hj=>?_,HBE.out.trans ((drewN_below wr nq).mono HBE.out.size)⟩,?_⟩
     ·by_cases e:j = k
      ·subst e; rw [HX.out,HY.out]; exact HXY.out
      ·exact HS.out j (by omega)
     ·simp [intOf]; omega
    ·rw [show decide (X = Y) = false by simpa using hxy] at hbeq
     have HXY:=Lib.hid hxy
     clear hxy
     go_wp2_with fail
     go_quiet (fail)
     go_wp2
     go_ret
     refine ⟨?_,HBE.out.trans ((drewN_below wr nq).mono HBE.out.size)⟩
     rw [show decide (ls = ms) = false from decide_eq_false fun e=>HXY.out (by rw [← HX.out,← HY.out,e])]
     rfl
   ·obtain rfl:k = n:=by omega
    have hfin:ls = ms:=by
     apply List.ext_getElem (by rw [HL.out,HM.out])
     intro i h1 h2
     have:=HS.out i (by rw [HL.out] at h1; exact h1)
     simpa [h1,h2] using this
    have HF:=Lib.hid hfin
    have HBE:=Lib.hid hb
    clear hfin hb
    go_wp2
    go_ret
    refine ⟨?_,HBE.out⟩
    rw [show decide (ls = ms) = true from decide_eq_true HF.out]
    rfl
 ·have hne:((ls.length:Int) != (ms.length:Int)) = true:=by simp; omega
  have hd:decide (ls = ms) = false:=decide_eq_false fun e=>hl (by rw [e])
  rw [hd]
  clear hd hl
  go_enter Tryz.func20,Tryz.ntmps20
  go_wp2
  go_ret
  exact ⟨rfl,Below.refl _ _⟩
theorem infoText:(Tryz.prog.info? 9).map (fun i=>(i.zero,i.size,i.bytes)) = some (some (.string ByteArray.empty),1,16):=by kernel_rfl
end Txt
end Go.Proofs.YtelofmeapplfpaaGreatDoor

/-
Stanzas as lists of bytes: what reading takes from a line, what printing makes of a field, and why it refuses one. No program is named here. Stanzas as lists of bytes: what is printed is read as it was; remarks and empty lines make no difference; what is read may be printed. Slices of strings that are read alone; the contract of the reference's SameTexts; append of one string. The small functions of package stanza and of its reference: letters, one field's name, signs. Names of fields: the reference's fieldName; isSign, isName. The contracts of text.Words, text.Trim and of their references.
-/
import Derived.Test.YthmpepnikmdjpaaGreatDoorCWordsGo
import Derived.Test.YthmpepnikmdjpaaGreatDoorCStzSame
import Derived.Test.YthmpepnikmdjpaaGreatDoorCTextAwake
import Derived.Test.YthmpepnikmdjpaaGreatDoorCVerDef
import Derived.Deep.RegionHeld3
import Derived.BigQuiet
import Derived.Deep.QuietTactic
namespace Go.Proofs.YthmpepnikmdjpaaGreatDoor
set_option linter.unusedSimpArgs false
set_option linter.unusedVariables false
namespace Stz
open Txt (W trimL trimRight trimLeft)
abbrev Bs:=List UInt8
abbrev Fld:=Bs × List Bs
abbrev Sz:=Int × List Fld
def sgn (c:UInt8):Bool:=decide (33 ≤ c) && decide (c ≤ 126) && !decide (c = 58)
def nameB:Bs → Bool
 | []=>false
 | c :: r=>sgn c && !decide (c = 35) && !decide (c = 45) && r.all sgn
def cutL:Bs → Option (Bs × Bs)
 | []=>none
 | c :: r=>if c = 58 then some ([],r) else (cutL r).map fun p=>(c :: p.1,p.2)
def further (l:Bs):Bs:=if trimRight l = [46] then [] else trimRight l
structure Zip where
 done:List Sz
 cur:Option (Int × List Fld × Fld)
def Zip.close (z:Zip):Zip:=match z.cur with
 | none=>z
 | some (n,fs,f)=>⟨z.done ++ [(n,fs ++ [f])],none⟩
def Zip.all (z:Zip):List Sz:=z.close.done
def goOn (z:Zip) (x:Bs):Except Nat Zip:=match z.cur with
 | none=>.error 3
 | some (n,fs,(nm,ls))=>.ok ⟨z.done,some (n,fs,(nm,ls ++ [further x]))⟩
def begin (z:Zip) (nm r:Bs) (n:Int):Except Nat Zip:=match z.cur with
 | none=>if z.done.length = 200 then .error 12 else .ok ⟨z.done,some (n,[],(nm,[trimL r]))⟩
 | some (k,fs,f)=>if fs.length + 1 = 40 then .error 12 else if (fs ++ [f]).any (fun g=>sameB g.1 nm) then .error 4 else .ok ⟨z.done,some (k,fs ++ [f],(nm,[trimL r]))⟩
def field (z:Zip) (x:Bs) (n:Int):Except Nat Zip:=match cutL x with
 | none=>.error 3
 | some (nm,r)=>if nameB nm then begin z nm r n else .error 3
def take (z:Zip) (x:Bs) (n:Int):Except Nat Zip :=
 if x.head? = some 35 then .ok z
 else if trimL x = [] then .ok z.close
 else if W (x.headD 0) = true then goOn z x.tail
 else field z x n
def run (z:Zip):Nat → List Bs → Except (Nat × Nat) Zip
 | _,[]=>.ok z
 | n,x :: r=>match take z x n with
  | .error e=>.error (e,n)
  | .ok z'=>run z' (n + 1) r
def start:Zip:=⟨[],none⟩
def parse (ls:List Bs):List Sz × Nat × Nat:=match run start 1 ls with
 | .error (e,n)=>([],e,n)
 | .ok z=>(z.all,0,0)

/-! ### printing -/
def firstLine (nm x:Bs):Bs:=if x = [] then nm ++ [58] else nm ++ 58 :: 32 :: x
def nextLine (x:Bs):Bs:=if x = [] then [32,46] else 32 :: x
def fieldLines (f:Fld):List Bs:=match f.2 with
 | []=>[]
 | x :: r=>firstLine f.1 x :: r.map nextLine
def stanzaLines (fs:List Fld):List Bs:=fs.flatMap fieldLines
def allLines:List Sz → List Bs
 | []=>[]
 | [s]=>stanzaLines s.2
 | s :: t :: r=>stanzaLines s.2 ++ [] :: allLines (t :: r)
def goodL (l:Bs):Prop:=Txt.good ⟨l.toArray⟩ = -1
instance (l:Bs):Decidable (goodL l):=inferInstanceAs (Decidable (_ = _))
def firstOK (x:Bs):Bool:=decide (goodL x) && (trimL x == x)
def nextOK (x:Bs):Bool:=decide (goodL x) && (further x == x)
def textsOK:List Bs → Bool
 | []=>false
 | x :: r=>firstOK x && r.all nextOK
def fieldErr (ahead:List Fld) (f:Fld):Nat :=
 if (nameB f.1 && textsOK f.2) = false then 3
 else if ahead.any (fun g=>sameB g.1 f.1) = true then 4
 else if (fieldLines f).any (fun x=>decide (1000 < x.length)) = true then 2
 else 0
def fieldsErr (ahead:List Fld):List Fld → Nat
 | []=>0
 | f :: r=>if fieldErr ahead f ≠ 0 then fieldErr ahead f else fieldsErr (ahead ++ [f]) r
def stanzaErr (s:Sz):Nat:=if s.2 = [] ∨ 40 < s.2.length then 12 else fieldsErr [] s.2
def eachErr:List Sz → Nat
 | []=>0
 | s :: r=>if stanzaErr s ≠ 0 then stanzaErr s else eachErr r
def listErr (l:List Sz):Nat:=if 200 < l.length then 12 else eachErr l
def fl:List Bs → Bs
 | []=>[]
 | x :: r=>x ++ 10 :: fl r
def print (l:List Sz):Bs × Nat:=if listErr l ≠ 0 then ([],listErr l) else if 65536 < (fl (allLines l)).length then ([],2) else (fl (allLines l),0)
def Like (a b:List Sz):Prop:=a.map (·.2) = b.map (·.2)
end Stz
end Go.Proofs.YthmpepnikmdjpaaGreatDoor
namespace Go.Proofs.YthmpepnikmdjpaaGreatDoor
set_option linter.unusedSimpArgs false
set_option linter.unusedVariables false
namespace Stz
open Txt (W trimL trimRight trimLeft)
theorem name_cons {nm:Bs} (h:nameB nm = true):∃ c r,nm = c :: r ∧ sgn c = true ∧ c ≠ 35 ∧ ∀ d ∈ nm,sgn d = true:=by
 cases nm with
 | nil=>cases h
 | cons c r =>
  unfold nameB at h
  simp only [Bool.and_eq_true,Bool.not_eq_true',decide_eq_false_iff_not,List.all_eq_true] at h
  exact ⟨c,r,rfl,h.1.1.1,h.1.1.2,fun d hd=>by
   rcases List.mem_cons.1 hd with rfl | hd
   ·exact h.1.1.1
   ·exact h.2 d hd⟩
theorem cut_eq:∀ {l a r:Bs},cutL l = some (a,r) → l = a ++ 58 :: r ∧ ∀ d ∈ a,d ≠ 58
 | [],a,r,h=>by cases h
 | c :: l,a,r,h=>by
  have h':(if c = 58 then some ([],l) else (cutL l).map fun p=>(c :: p.1,p.2)) = some (a,r):=h
  by_cases hc:c = 58
  ·rw [if_pos hc] at h'
   obtain ⟨rfl,rfl⟩:=Prod.mk.inj (Option.some.inj h')
   exact ⟨by rw [hc]; rfl,fun d hd=>by cases hd⟩
  ·rw [if_neg hc] at h'
   cases hq:cutL l with
   | none=>rw [hq] at h'; cases h'
   | some p =>
    obtain ⟨p1,p2⟩:=p
    rw [hq] at h'
    obtain ⟨rfl,rfl⟩:=Prod.mk.inj (Option.some.inj h')
    obtain ⟨h1,h2⟩:=cut_eq hq
    refine ⟨by rw [h1]; rfl,fun d hd=>?_⟩
    rcases List.mem_cons.1 hd with rfl | hd
    ·exact hc
    ·exact h2 d hd
/-! ### lines -/
theorem run_cons (z:Zip) (n:Nat) (x:Bs) (r:List Bs):run z n (x :: r) = (match take z x n with | .error e=>.error (e,n) | .ok z'=>run z' (n + 1) r):=rfl
theorem run_app (z:Zip) (n:Nat) (a c:List Bs):run z n (a ++ c) = (match run z n a with | .error e=>.error e | .ok z'=>run z' (n + a.length) c):=by
 induction a generalizing z n with
 | nil=>rfl
 | cons x a ih =>
  rw [List.cons_append,run_cons,run_cons]
  cases take z x n with
  | error e=>rfl
  | ok z' =>
   simp only [List.length_cons]
   rw [ih z' (n + 1),show n + 1 + a.length = n + (a.length + 1) by omega]
theorem Like.refl (a:List Sz):Like a a:=rfl
theorem Like.symm {a c:List Sz} (h:Like a c):Like c a:=Eq.symm h
theorem Like.trans {a c d:List Sz} (h:Like a c) (k:Like c d):Like a d:=Eq.trans h k
theorem Like.app {a a' c c':List Sz} (h:Like a a') (k:Like c c'):Like (a ++ c) (a' ++ c'):=by
 unfold Like at *
 rw [List.map_append,List.map_append,h,k]
theorem Like.len {a c:List Sz} (h:Like a c):a.length = c.length:=by
 have:=congrArg List.length h
 simpa using this
theorem each_cons {s:Sz} {r:List Sz} (h:eachErr (s :: r) = 0):stanzaErr s = 0 ∧ eachErr r = 0:=by
 unfold eachErr at h
 split at h
 ·next e=>exact absurd h e
 ·next e=>exact ⟨by simpa using e,h⟩
def ZLike (z y:Zip):Prop:=Like z.done y.done ∧ z.cur.map (·.2) = y.cur.map (·.2)
theorem ZLike.close {z y:Zip} (h:ZLike z y):ZLike z.close y.close:=by
 obtain ⟨d,q⟩:=z
 obtain ⟨d',q'⟩:=y
 obtain ⟨h1,h2⟩:=h
 cases q with
 | none =>
  cases q' with
  | none=>exact ⟨h1,rfl⟩
  | some p=>cases h2
 | some p =>
  cases q' with
  | none=>cases h2
  | some p' =>
   obtain ⟨n,fs,f⟩:=p
   obtain ⟨n',fs',f'⟩:=p'
   simp only [Option.map_some,Option.some.injEq,Prod.mk.injEq] at h2
   obtain ⟨rfl,rfl⟩:=h2
   exact ⟨h1.app (by unfold Like; rfl),rfl⟩
theorem ZLike.all {z y:Zip} (h:ZLike z y):Like z.all y.all:=h.close.1
end Stz
end Go.Proofs.YthmpepnikmdjpaaGreatDoor
namespace Go.Proofs.YthmpepnikmdjpaaGreatDoor
open Go.RowKit
set_option linter.unusedVariables false
set_option linter.unusedSimpArgs false
namespace Txt
def Texts (w:World) (v:Value) (ls:List ByteArray):Prop :=
 ls.length ≤ 4611686018427387904 ∧ ∃ a cap,v = .slice a ls.length cap ∧ ls.length ≤ cap ∧ (0 < ls.length → ∃ b off,a = some ⟨b,off,none⟩ ∧ ∀ i,i < ls.length → w.cell? ⟨b,off + i,none⟩ = some (.string (ls.getD i ByteArray.empty)))
theorem Texts.below {w w':World} {v ls} (h:Texts w v ls) (hb:Below w.heap.size w w'):Texts w' v ls:=by
 obtain ⟨h0,a,cap,h1,hc,h2⟩:=h
 exact ⟨h0,a,cap,h1,hc,fun hl=>by
  obtain ⟨b,off,h3,h4⟩:=h2 hl
  exact ⟨b,off,h3,fun i hi=>by rw [hb.cell (lt_cell (h4 i hi))]; exact h4 i hi⟩⟩
theorem Texts.none (w:World):Texts w (.slice none 0 0) []:=⟨by simp,_,_,rfl,Nat.le_refl _,fun h=>absurd h (by simp)⟩
theorem Texts.empty (w:World) (a:Option Addr) (c:Nat):Texts w (.slice a 0 c) []:=⟨by simp,_,_,rfl,by simp,fun h=>absurd h (by simp)⟩
theorem Texts.owned {w:World} {B:Nat} {v:Value} {ls:List ByteArray} (h:w.ownsRow B 9 1 v ls.length (ls.map Value.string)) (hl:ls.length ≤ 4611686018427387904):Texts w v ls:=by
 refine ⟨hl,?_⟩
 rcases id h.2 with ⟨rfl,h0⟩ | ⟨g,cap,cur,rfl,_,hh,hle,hcap,hsz,htake⟩
 ·have:ls = []:=List.length_eq_zero_iff.1 h0
  subst this
  exact ⟨Option.none,0,rfl,Nat.le_refl _,fun h=>absurd h (by simp)⟩
 ·refine ⟨_,_,rfl,hle,fun _=>⟨g,0,rfl,fun i hi=>?_⟩⟩
  have:=h.cells (g:=g) rfl i (.string (ls.getD i ByteArray.empty)) (by simp [hi])
  rw [Nat.zero_add]
  have e:(⟨g,0,Option.none⟩:Addr).add i = ⟨g,i,Option.none⟩:=by cases i <;> simp [Addr.add]
  rw [e] at this
  exact this
theorem drewN_below (w:World) (n:Nat):Below w.heap.size w (w.drewN n):=⟨rfl,rfl,rfl,Nat.le_refl _,fun _ _=>rfl⟩
theorem infoText:(Tryz.prog.info? 9).map (fun i=>(i.zero,i.size,i.bytes)) = some (some (.string ByteArray.empty),1,16):=by kernel_rfl
theorem append_text {w:World} {ops:Array Oper} {rest:List Oper} {o:Oper} {a:Act} {Q:Exit → Act → World → Prop} (hgd:o.guard = none) (s x:Operand)
  (ho:o.op = .call { callee:=.builtin .append,args:=#[s,x],argTypes:=#[41,41] })
  (B:Nat) (v:Value) (ls:List ByteArray) (hv:a.eval s = v) (hown:w.ownsRow B 9 1 v ls.length (ls.map Value.string)) (y:Addr) (c:Nat) (hx:a.eval x = .slice (some y) 1 c) (t:ByteArray) (hcell:w.cell? (y.add 0) = some (.string t))
  (hn:ls.length + 1 ≤ 8796093022208) (hB:B ≤ w.heap.size)
  (h:∀ v' w',w'.ownsRow B 9 1 v' (ls ++ [t]).length ((ls ++ [t]).map Value.string) → w.grownBy w' v.ownBlock → wpList Tryz.prog ops Q rest (a.put o.dst v') w'):wpList Tryz.prog ops Q (o :: rest) a w:=by
 obtain ⟨i0,hi,hz0,hz1,hz2⟩:=info_parts infoText
 have hsrc:Src Tryz.prog 1 41 (.slice (some y) 1 c) 1 [.string t] w:=by
  refine Src.ofSlice w Tryz.underlying41 y 1 c [.string t] rfl (fun j u hj=>?_) (fun u hu=>by rw [List.mem_singleton.1 hu]; rfl)
  have:j = 0:=by have:=(List.getElem?_eq_some_iff.1 hj).1; simp at this; omega
  subst this
  simp at hj
  rw [← hj]; exact hcell
 refine Own.wpList_append_src hgd s x 41 41 ho B 9 i0 _ 1 16 Tryz.underlying41 hi hz0 hz1 hz2 rfl v ls.length _ hv hown _ 1 [.string t] hx hsrc (by simp only [maxLen]; omega) (by omega) hB fun v' w' h1 h2=>?_
 exact h v' w' (by simpa using h1) h2
end Txt
end Go.Proofs.YthmpepnikmdjpaaGreatDoor
namespace Go.Proofs.YthmpepnikmdjpaaGreatDoor
open Go.RowKit
set_option linter.unusedSimpArgs false
set_option linter.unusedVariables false
namespace Stz
open Txt (b b_eq b_lt)
def sgnN (c:Nat):Bool:=decide (33 ≤ c) && decide (c ≤ 126) && !decide (c = 58)
theorem sgn_toNat (c:UInt8):sgn c = sgnN c.toNat:=by
 unfold sgn sgnN
 rw [Bool.eq_iff_iff]
 simp [UInt8.le_iff_toNat_le,← UInt8.toNat_inj]
def NameTo (s:ByteArray) (k:Nat):Prop:=(∀ j,j < k → sgnN (b s j) = true) ∧ (0 < k → b s 0 ≠ 35 ∧ b s 0 ≠ 45)
theorem bytes_get (s:ByteArray) (k:Nat) (h:k < s.size):∃ c,s.data.toList[k]? = some c ∧ c.toNat = b s k:=by
 have hl:k < s.data.toList.length:=by rw [Txt.len_list]; exact h
 refine ⟨s.data.toList[k],List.getElem?_eq_getElem hl,?_⟩
 unfold b
 rw [dif_pos h]
 rfl
theorem name_of {s:ByteArray} {k:Nat} (hk:k ≤ s.size) (h:NameTo s k) (h0:0 < k):nameB (s.data.toList.take k) = true:=by
 cases hl:s.data.toList with
 | nil =>
  have:=congrArg List.length hl
  rw [Txt.len_list,List.length_nil] at this
  omega
 | cons c r =>
  obtain ⟨k,rfl⟩:∃ m,k = m + 1:=⟨k - 1,by omega⟩
  have hget:∀ j,j < k + 1 → ∃ d,(c :: r)[j]? = some d ∧ d.toNat = b s j:=fun j hj=>by
   obtain ⟨d,h1,h2⟩:=bytes_get s j (by omega)
   rw [hl] at h1
   exact ⟨d,h1,h2⟩
  obtain ⟨d,h1,h2⟩:=hget 0 (by omega)
  simp at h1
  subst h1
  have h3:=h.2 (by omega)
  rw [List.take_succ_cons]
  unfold nameB
  simp only [Bool.and_eq_true,Bool.not_eq_true',decide_eq_false_iff_not,List.all_eq_true]
  refine ⟨⟨⟨?_,fun e=>?_⟩,fun e=>?_⟩,fun x hx=>?_⟩
  ·rw [sgn_toNat,h2]; exact h.1 0 (by omega)
  ·rw [e] at h2; exact h3.1 h2.symm
  ·rw [e] at h2; exact h3.2 h2.symm
  ·obtain ⟨j,hj,rfl⟩:=List.mem_iff_getElem.1 hx
   simp at hj
   obtain ⟨y,h4,h5⟩:=hget (j + 1) (by omega)
   simp at h4
   rw [sgn_toNat]
   simp only [List.getElem_take]
   rw [List.getElem?_eq_getElem (by omega)] at h4
   rw [Option.some.inj h4,h5]
   exact h.1 (j + 1) (by omega)
theorem NameTo.more {s:ByteArray} {k:Nat} (h:NameTo s k) (h1:sgnN (b s k) = true) (h2:k = 0 → b s 0 ≠ 35 ∧ b s 0 ≠ 45):NameTo s (k + 1) :=
 ⟨fun j hj=>by
  by_cases e:j = k
  ·subst e; exact h1
  ·exact h.1 j (by omega),fun _=>by
  by_cases e:k = 0
  ·exact h2 e
  ·exact h.2 (by omega)⟩
end Stz
end Go.Proofs.YthmpepnikmdjpaaGreatDoor
namespace Go.Proofs.YthmpepnikmdjpaaGreatDoor
open Go.RowKit
set_option linter.unusedSimpArgs false
set_option linter.unusedVariables false
namespace Stz
open Txt (b b_eq b_lt)
theorem sgnN_iff {c:Nat}:sgnN c = true ↔ 33 ≤ c ∧ c ≤ 126 ∧ c ≠ 58:=by unfold sgnN; simp [and_assoc]
theorem sgnN_no {c:Nat} (h:c < 33 ∨ 126 < c):sgnN c = false:=by
 cases e:sgnN c
 ·rfl
 ·have:=sgnN_iff.1 e; omega
theorem ret_bool' {a c:Bool} {w:World} (h:a = true ↔ c = true):Ending.returned (Value.bool a) = Ending.returned (.bool c) ∧ w = w:=⟨by rw [Bool.eq_iff_iff.2 h],rfl⟩
theorem isSign_any (r:Nat) (w:World):Calls Tryz.prog 289 #[.int .i32 r] w fun e w'=>e = .returned (.bool (sgnN r)) ∧ w' = w:=by
 go_enter Tryz.func289,Tryz.ntmps289
 go_wp2_with fail
 all_goals
  go_ret
  refine ret_bool' ?_
  rw [sgnN_iff]
  simp
  try omega
theorem nameB_bad {s:ByteArray} {k:Nat} (hk:k < s.size) (h:sgnN (b s k) = false ∨ (k = 0 ∧ (b s 0 = 35 ∨ b s 0 = 45))):nameB s.data.toList = false:=by
 cases hn:nameB s.data.toList with
 | false=>rfl
 | true =>
  exfalso
  obtain ⟨d,h3,h4⟩:=bytes_get s k hk
  obtain ⟨c0,q,e0,hs,hne,hall⟩:=name_cons hn
  rcases h with h | ⟨rfl,h⟩
  ·have hd:d ∈ s.data.toList:=List.mem_of_getElem? h3
   have:=hall d hd
   rw [sgn_toNat,h4,h] at this
   cases this
  ·rw [e0] at h3 hn
   simp at h3
   subst h3
   unfold nameB at hn
   simp only [Bool.and_eq_true,Bool.not_eq_true',decide_eq_false_iff_not] at hn
   rcases h with hb | hb
   ·exact hn.1.1.2 (UInt8.toNat_inj.1 (by rw [h4,hb]; rfl))
   ·exact hn.1.2 (UInt8.toNat_inj.1 (by rw [h4,hb]; rfl))
theorem nameB_full {s:ByteArray} (h:NameTo s s.size) (h0:0 < s.size):nameB s.data.toList = true:=by
 have:=name_of (Nat.le_refl _) h h0
 rw [List.take_of_length_le (by rw [Txt.len_list]; omega)] at this
 exact this
theorem index_two (c:Nat) (h:c < 256):decide (0 ≤ Lib.indexByte [35,45] (c:Int).toNat.toUInt8) = (decide (c = 35) || decide (c = 45)):=by
 have e:∀ c:Fin 256,decide (0 ≤ Lib.indexByte [35,45] ((c.1:Nat):Int).toNat.toUInt8) = (decide (c.1 = 35) || decide (c.1 = 45)):=by decide +kernel
 exact e ⟨c,h⟩
set_option maxRecDepth 100000 in
set_option maxHeartbeats 2000000 in
theorem isName_any (s:ByteArray) (w:World) (hs:s.size ≤ 9223372036854775807) :
  Calls Tryz.prog 259 #[.string s] w fun e w'=>e = .returned (.bool (nameB s.data.toList)) ∧ Below w.heap.size w w':=by
 obtain ⟨R,hR⟩:∃ R,nameB s.data.toList = R:=⟨_,rfl⟩
 have HR:=Lib.hid hR
 rw [hR]
 clear hR
 go_enter Tryz.func259,Tryz.ntmps259
 go_wp2
 go_loopg [3] s.size (fun gf s3 wx=>∃ pos:Nat,wx.heap[w.heap.size]? = some (.stringIter s pos) ∧ Below w.heap.size w wx ∧ Hid (NameTo s pos) ∧ s.size ≤ pos + gf ∧ pos ≤ s.size)
 case atStart=>exact ⟨0,World.iter_heap w s 0,(Below.refl _ _).alloc (Nat.le_refl _) _,⟨fun j hj=>absurd hj (by omega),fun h=>absurd h (by omega)⟩,by omega,by omega⟩
 case round =>
  obtain ⟨pos,hit,hbw,HN,hfu,hps⟩:=hrel
  by_cases hlt:pos < s.size
  ·obtain ⟨g',rfl⟩:∃ g',gk = g' + 1:=⟨gk - 1,by omega⟩
   have hnx:∀ ty,(Instr.next (.pointer (some ⟨w.heap.size,0,none⟩)) true ty).run Tryz.prog wr = _:=fun ty=>Lib.run_next_any_at wr w.heap.size s pos ty hit hlt
   obtain ⟨W,hW⟩:∃ W,wr.iterAt w.heap.size s (pos + (Utf8.decode s pos).2) = W:=⟨_,rfl⟩
   have hit2:=Lib.iterAt_heap wr w.heap.size s pos (pos + (Utf8.decode s pos).2) hit
   have hbw2:=Lib.below_iterAt hbw (k:=w.heap.size) (Nat.le_refl _) s (pos + (Utf8.decode s pos).2)
   rw [hW] at hnx hit2 hbw2
   clear hW hit hbw
   by_cases hb:b s pos < 128
   ·rw [Txt.dec_low s pos hlt hb] at hnx hit2
    obtain ⟨c,hc⟩:∃ c,b s pos = c:=⟨_,rfl⟩
    have HC:=Lib.hid hc
    rw [hc] at hnx hb
    clear hc
    cases hk:sgnN c
    ·have hres:=nameB_bad hlt (.inl (by rw [HC.out]; exact hk))
     rw [HR.out] at hres
     subst hres
     have HK:=Lib.hid hk
     clear hk
     go_wp2_with fail
     refine (isSign_any _ _).mono ?_
     rintro e w' ⟨rfl,rfl⟩
     rw [HK.out]
     go_wp2_with fail
     go_ret
     exact ⟨rfl,hbw2⟩
    ·have HK:=Lib.hid hk
     clear hk
     by_cases h0:pos = 0
     ·subst h0
      have hct:=index_two c (by omega)
      have cr:=fun w=>Tryz.strings_ContainsRune_ascii ⟨#[35,45]⟩ (c:Int) w (by omega) (by omega)
      rw [show (⟨#[35,45]⟩:ByteArray).data.toList = [35,45] from rfl,hct] at cr
      by_cases hbad:c = 35 ∨ c = 45
      ·have hres:=nameB_bad hlt (.inr ⟨rfl,by rw [HC.out]; exact hbad⟩)
       rw [HR.out] at hres
       subst hres
       rw [show (decide (c = 35) || decide (c = 45)) = true by simpa using hbad] at cr
       have CR:=Lib.hid cr
       clear cr hct hbad
       go_wp2_with fail
       refine (isSign_any _ _).mono ?_
       rintro e w' ⟨rfl,rfl⟩
       rw [HK.out]
       go_wp2_with fail
       refine (CR.out _).mono ?_
       rintro e w' ⟨rfl,rfl⟩
       go_wp2_with fail
       go_ret
       exact ⟨rfl,hbw2⟩
      ·rw [show (decide (c = 35) || decide (c = 45)) = false by simp; omega] at cr
       have CR:=Lib.hid cr
       have hm:=HN.out.more (by rw [HC.out]; exact HK.out) fun _=>by rw [HC.out]; omega
       have HM:=Lib.hid hm
       clear cr hct hbad hm
       go_wp2_with fail
       refine (isSign_any _ _).mono ?_
       rintro e w' ⟨rfl,rfl⟩
       rw [HK.out]
       go_wp2_with fail
       refine (CR.out _).mono ?_
       rintro e w' ⟨rfl,rfl⟩
       go_wp2_with fail
       go_roundg g'
       case measure=>omega
       case rel=>exact ⟨0 + 1,hit2,hbw2,HM,by omega,by omega⟩
     ·have h0':¬ (pos:Int) = 0:=by omega
      have hm:=HN.out.more (by rw [HC.out]; exact HK.out) fun e=>absurd e h0
      have HM:=Lib.hid hm
      clear hm
      go_wp2_with fail
      refine (isSign_any _ _).mono ?_
      rintro e w' ⟨rfl,rfl⟩
      rw [HK.out]
      go_wp2_with fail
      go_roundg g'
      case measure=>omega
      case rel=>exact ⟨pos + 1,hit2,hbw2,HM,by omega,by omega⟩
   ·have hres:=nameB_bad hlt (.inl (sgnN_no (by omega)))
    rw [HR.out] at hres
    subst hres
    have hr:128 ≤ (Utf8.decode s pos).1:=by
     rcases Txt.dec_high s pos hlt (by omega) with ⟨h0,hd⟩ | ⟨h0,h1,hd,hr⟩
     ·rw [hd]; decide
     ·exact hr
    obtain ⟨X,hX⟩:∃ X,(Utf8.decode s pos).1 = X:=⟨_,rfl⟩
    rw [hX] at hnx hr
    have HK:=Lib.hid (sgnN_no (c:=X) (.inr (by omega)))
    clear hX hb
    go_wp2_with fail
    refine (isSign_any _ _).mono ?_
    rintro e w' ⟨rfl,rfl⟩
    rw [HK.out]
    go_wp2_with fail
    go_ret
    exact ⟨rfl,hbw2⟩
  ·have hne:∀ ty,(Instr.next (.pointer (some ⟨w.heap.size,0,none⟩)) true ty).run Tryz.prog wr = _:=fun ty=>Lib.run_next_end_at wr w.heap.size s pos ty hit hlt
   obtain rfl:pos = s.size:=by omega
   by_cases h0:s.size = 0
   ·have he:s.toList.isEmpty = true:=by
     rw [Lib.toList_data]
     have:=Txt.len_list s
     rw [h0] at this
     rw [List.length_eq_zero_iff.1 this]; rfl
    have hres:nameB s.data.toList = false:=by
     have:=Txt.len_list s
     rw [h0] at this
     rw [List.length_eq_zero_iff.1 this]; rfl
    rw [HR.out] at hres
    subst hres
    go_wp2_with fail
    go_ret
    exact ⟨rfl,hbw⟩
   ·have he:s.toList.isEmpty = false:=by
     rw [Lib.toList_data]
     have:=Txt.len_list s
     cases hq:s.data.toList with
     | nil=>rw [hq] at this; exact absurd this.symm h0
     | cons _ _=>rfl
    have hres:=nameB_full HN.out (by omega)
    rw [HR.out] at hres
    subst hres
    go_wp2_with fail
    go_ret
    exact ⟨rfl,hbw⟩
end Stz
end Go.Proofs.YthmpepnikmdjpaaGreatDoor
namespace Go.Proofs.YthmpepnikmdjpaaGreatDoor
open Go.RowKit
set_option linter.unusedVariables false
set_option linter.unusedSimpArgs false
namespace Txt
def WordsOf (s:ByteArray) (ls:List ByteArray):Prop:=ls.map (·.data.toList) = wordsL s.data.toList
theorem bytes_inj {x y:ByteArray} (h:x.data.toList = y.data.toList):x = y:=ByteArray.ext (Array.ext' h)
theorem lists_inj:∀ {ls ms:List ByteArray},ls.map (·.data.toList) = ms.map (·.data.toList) → ls = ms
 | [],[],_=>rfl
 | [],_ :: _,h=>by simp at h
 | _ :: _,[],h=>by simp at h
 | x :: ls,y :: ms,h=>by
  simp only [List.map_cons,List.cons.injEq] at h
  rw [bytes_inj h.1,lists_inj h.2]
theorem WordsOf.uniq {s t:ByteArray} {ls ms:List ByteArray} (h:WordsOf s ls) (h':WordsOf t ms) (e:wordsL s.data.toList = wordsL t.data.toList):ls = ms:=lists_inj (h.trans (e.trans h'.symm))
theorem white_pays (w:World):PredAtRunes Tryz.prog 198 #[] wht w:=fun W x _ _=>by
 unfold FnGives
 rw [Array.append_empty]
 exact (white_any x W).mono fun e w' ⟨h1,h2⟩=>⟨h1,0,by rw [h2]; rfl⟩
set_option maxRecDepth 100000 in
theorem trim_any (s:ByteArray) (w:World) (hs:s.size ≤ 9223372036854775807) (hT:Lib.Utf8Tabs 3 4 w) :
  Calls Tryz.prog 150 #[.string s] w fun e w'=>∃ t,e = .returned (.string t) ∧ t.data.toList = trimL s.data.toList ∧ Below w.heap.size w w':=by
 have eg:∀ args w,(callFunc 198 args).run Tryz.prog w = .ok (.enter 198 args) w:=enters_of Tryz.func198 (by kernel_rfl) rfl
 have c:=Tryz.strings_TrimFunc_runes 198 #[] eg wht s w hs hT (white_pays w)
 have hW:=trim_list s
 generalize Lib.trimF wht s = t at *
 have HW:=Lib.hid hW
 clear hW eg hT
 go_enter Tryz.func150,Tryz.ntmps150
 go_wp2_with fail
 refine c.mono ?_
 rintro e w' ⟨rfl,hb⟩
 go_wp2_with fail
 go_ret
 exact ⟨t,rfl,HW.out,hb⟩
end Txt
end Go.Proofs.YthmpepnikmdjpaaGreatDoor

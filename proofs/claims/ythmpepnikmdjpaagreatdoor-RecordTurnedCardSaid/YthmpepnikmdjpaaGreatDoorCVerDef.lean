/-
Blocks of memory that a call has made, whole; what a call may have changed. No program is named here. Memory that a call makes: append of whatever yields cells (a slice, nil, a string) onto a row of the call's own; a row of numbers that reads as a list. No program is named here. What a text's characters are, by bytes: the reference's reading of a string at a place, held against the model's own decoding. Versions as lists of bytes: parts as rows of numbers, which row is earlier, what a version's parts are. No program is named here.
-/
import Derived.WalkKit
import Derived.Laws.CopyRow
import Derived.Deep.MidRow
import Derived.Lib.Hide
import Derived.Deep.RegionLaw
import Derived.Deep.AppendSrc
import Derived.OwnWalk
import Derived.Laws.RangeAny
import Derived.Lib.Bytealg
namespace Go.Proofs.YthmpepnikmdjpaaGreatDoor
open Go.RowKit
namespace Blk

def Is (w:World) (b:Nat) (T:TypeId) (cs:Array Value):Prop:=w.heap[b]? = some (.cells cs T (0,0))
theorem Is.lt {w b T cs} (h:Is w b T cs):b < w.heap.size:=(Array.getElem?_eq_some_iff.1 h).1
theorem Is.cell {w b T cs} (h:Is w b T cs) (i:Nat):w.cell? ⟨b,i,none⟩ = cs[i]?:=cell_of_row w b i cs T (0,0) h
theorem Is.at {w b T cs} (h:Is w b T cs) {i:Nat} {v:Value} (hv:cs[i]? = some v):w.cell? ⟨b,i,none⟩ = some v:=(h.cell i).trans hv
theorem Is.free {w b T cs} (h:Is w b T cs) (i:Nat):w.frozen? ⟨b,i,none⟩ = false:=frozen_of_row w b i cs T h
theorem Is.alloc {w b T cs} (h:Is w b T cs) (o:Obj):Is (w.alloc o) b T cs:=(Below.heap_alloc w o b h.lt).trans h
theorem Is.new (w:World) (T:TypeId) (cs:Array Value):Is (w.alloc (.cells cs T)) w.heap.size T cs:=heap_alloc_new w _
theorem Is.drew {w b T cs} (h:Is w b T cs):Is w.drew b T cs:=h
theorem Is.set {w b T cs} (h:Is w b T cs) (i:Nat) (v:Value):Is (w.setCell ⟨b,i,none⟩ v) b T (cs.setIfInBounds i v):=heap_setCell_same w b i cs T v h
theorem Is.setOther {w b T cs} (h:Is w b T cs) {a:Addr} (v:Value) (hne:b ≠ a.block):Is (w.setCell a v) b T cs:=(heap_setCell_other w a b v hne).trans h
theorem Is.row {w b T cs} (h:Is w b T cs) (ds:Array Value):Is (w.setRow b ds) b T ds:=setRow_heap w b cs ds T (0,0) h
theorem Is.rowOther {w b T cs} (h:Is w b T cs) {g:Nat} (ds:Array Value) (hne:b ≠ g):Is (w.setRow g ds) b T cs:=(setRow_other w g b ds hne).trans h
theorem Is.inj {w b T T' cs cs'} (h:Is w b T cs) (k:Is w b T' cs'):T = T' ∧ cs = cs':=by
 unfold Is at h k; rw [h] at k; cases k; exact ⟨rfl,rfl⟩
theorem Is.ne {w b b' T T' cs cs'} (h:Is w b T cs) (k:Is w b' T' cs') (hT:T ≠ T'):b ≠ b':=by
 rintro rfl; exact hT (h.inj k).1
theorem Is.range {w b T cs} (h:Is w b T cs) (o n:Nat):w.rangeAt b o (cs.extract o (o + n)).toList:=World.rangeAt_of_block h o n
theorem setCells_row {w b T}:∀ (vs:List Value) (cs:Array Value) (o:Nat),Is w b T cs → o + vs.length ≤ cs.size → w.setCells b o vs = w.setRow b (cs.toList.take o ++ vs ++ cs.toList.drop (o + vs.length)).toArray:=by
 intro vs
 induction vs generalizing w with
 | nil=>intro cs o h _; simp [World.setCells,setRow_self w b cs T (0,0) h]
 | cons v r ih =>
  intro cs o h hl
  have hl':o + (r.length + 1) ≤ cs.size:=by simpa using hl
  rw [World.setCells,ih (cs.setIfInBounds o v) (o + 1) (h.set o v) (by simp; omega),setCell_eq_setRow w b o cs T (0,0) v h,setRow_setRow]
  congr 2
  have e:=list_seg_step cs.toList o v r (by simpa using hl')
  simpa [Array.toList_setIfInBounds,Nat.add_assoc] using e
theorem Is.cells {w b T cs} (h:Is w b T cs) (o:Nat) (vs:List Value) (hl:o + vs.length ≤ cs.size):Is (w.setCells b o vs) b T (cs.toList.take o ++ vs ++ cs.toList.drop (o + vs.length)).toArray:=by
 rw [setCells_row vs cs o h hl]; exact h.row _

structure Chg (S:Nat → Prop) (w w':World):Prop where
 os:w'.os = w.os
 tape:w'.tape = w.tape
 output:w'.output = w.output
 size:w.heap.size ≤ w'.heap.size
 block:∀ k,k < w.heap.size → ¬ S k → w'.heap[k]? = w.heap[k]?
theorem Chg.refl (S:Nat → Prop) (w:World):Chg S w w:=⟨rfl,rfl,rfl,Nat.le_refl _,fun _ _ _=>rfl⟩
theorem Chg.trans {S:Nat → Prop} {a b c:World} (h:Chg S a b) (k:Chg S b c):Chg S a c :=
 ⟨k.os.trans h.os,k.tape.trans h.tape,k.output.trans h.output,Nat.le_trans h.size k.size,fun i hi hn=>(k.block i (Nat.lt_of_lt_of_le hi h.size) hn).trans (h.block i hi hn)⟩
theorem Chg.mono {S S':Nat → Prop} {w w':World} (h:Chg S w w') (hS:∀ k,k < w.heap.size → S k → S' k):Chg S' w w' :=
 ⟨h.os,h.tape,h.output,h.size,fun k hk hn=>h.block k hk fun hs=>hn (hS k hk hs)⟩
theorem Chg.drew {S:Nat → Prop} {a w:World} (h:Chg S a w):Chg S a w.drew:=⟨h.os,h.tape,h.output,h.size,h.block⟩
theorem Chg.one {S:Nat → Prop} (w:World) (o:Obj):Chg S w (w.alloc o):=⟨rfl,rfl,rfl,by simp,fun k hk _=>Below.heap_alloc w o k hk⟩
theorem Chg.alloc {S:Nat → Prop} {a w:World} (h:Chg S a w) (o:Obj):Chg S a (w.alloc o):=h.trans (Chg.one w o)
theorem Chg.setCell {S:Nat → Prop} {a w:World} (h:Chg S a w) {p:Addr} (hp:S p.block) (u:Value):Chg S a (w.setCell p u) :=
 h.trans ⟨rfl,rfl,rfl,by simp [World.setCell],fun k _ hn=>heap_setCell_other w p k u fun e=>hn (e ▸ hp)⟩
theorem Chg.setAt {S:Nat → Prop} {a w:World} {b o:Nat} {u:Value} (h:Chg S a w) (hp:S b):Chg S a (w.setCell ⟨b,o,none⟩ u):=h.setCell (p:=⟨b,o,none⟩) hp u
theorem Chg.setCell' {S:Nat → Prop} {a w:World} (h:Chg S a w) {p:Addr} (hp:a.heap.size ≤ p.block) (u:Value):Chg S a (w.setCell p u) :=
 ⟨h.os,h.tape,h.output,by simpa [World.setCell] using h.size,fun k hk hn=>(heap_setCell_other w p k u (by omega)).trans (h.block k hk hn)⟩
theorem Chg.setRow {S:Nat → Prop} {a w:World} (h:Chg S a w) {g:Nat} (hg:S g) (cs:Array Value):Chg S a (w.setRow g cs) :=
 h.trans ⟨rfl,rfl,rfl,by simp [World.setRow],fun k _ hn=>setRow_other w g k cs fun e=>hn (e ▸ hg)⟩
theorem Chg.setRow' {S:Nat → Prop} {a w:World} (h:Chg S a w) {g:Nat} (hg:a.heap.size ≤ g) (cs:Array Value):Chg S a (w.setRow g cs) :=
 ⟨h.os,h.tape,h.output,by simpa [World.setRow] using h.size,fun k hk hn=>(setRow_other w g k cs (by omega)).trans (h.block k hk hn)⟩
theorem Chg.grown {S:Nat → Prop} {a w w':World} {row:Option Nat} (h:Chg S a w) (hg:w.grownBy w' row) (hr:∀ k,row = some k → k < a.heap.size → S k):Chg S a w' :=
 ⟨hg.os.trans h.os,hg.tape.trans h.tape,hg.output.trans h.output,Nat.le_trans h.size hg.size,fun k hk hn=>(hg.block k (Nat.lt_of_lt_of_le hk h.size) (fun e=>hn (hr k e.symm hk))).trans (h.block k hk hn)⟩
theorem Chg.ofBelow {S:Nat → Prop} {w w':World} {B:Nat} (h:Below B w w') (hS:∀ k,k < w.heap.size → B ≤ k → S k):Chg S w w' :=
 ⟨h.os,h.tape,h.output,h.size,fun k hk hn=>h.block k (Nat.lt_of_not_le fun hB=>hn (hS k hk hB))⟩
theorem Chg.ofBelow' {S:Nat → Prop} {w w':World} (h:Below w.heap.size w w'):Chg S w w':=Chg.ofBelow h fun k hk hB=>absurd hk (by omega)
theorem Chg.below {S:Nat → Prop} {B:Nat} {w w':World} (h:Chg S w w') (hS:∀ k,S k → B ≤ k) (hB:B ≤ w.heap.size):Below B w w' :=
 ⟨h.os,h.tape,h.output,h.size,fun k hk=>h.block k (by omega) fun hs=>by have:=hS k hs; omega⟩
theorem Chg.is {S:Nat → Prop} {w w':World} (h:Chg S w w') {b T cs} (k:Is w b T cs) (hn:¬ S b):Is w' b T cs:=(h.block b k.lt hn).trans k
theorem Chg.owns {S:Nat → Prop} {w w':World} (h:Chg S w w') {base:Nat} {e:TypeId} {size:Nat} {v:Value} {n:Nat} {xs:List Value} (k:w.ownsRow base e size v n xs) (hn:∀ b,v.ownBlock = some b → ¬ S b):w'.ownsRow base e size v n xs:=by
 refine ⟨k.1,?_⟩
 rcases k.2 with h2 | ⟨g,cap,cur,hv,hg,hh,r⟩
 ·exact Or.inl h2
 ·exact Or.inr ⟨g,cap,cur,hv,hg,h.is hh (hn g (by rw [hv]; rfl)),r⟩

/-! ### copy: elements of any size,a row of the call's own as the destination -/
section
variable {P:Program}
end
end Blk
end Go.Proofs.YthmpepnikmdjpaaGreatDoor
namespace Go.Proofs.YthmpepnikmdjpaaGreatDoor
open Go.RowKit
namespace Own

section
variable {P:Program} {w:World}

theorem run_append_src (t tx ty:TypeId) (base:Nat) (e:TypeId) (i:TypeInfo) (z:Value) (size bytes:Nat) (ht:P.underlying t = some (.slice e)) (hi:P.info? e = some i) (hz:i.zero = some z)
  (hsize:i.size = size) (hby:i.bytes = bytes) (hzs:z.cells.size = size)
  (v:Value) (n:Nat) (xs:List Value) (hown:w.ownsRow base e size v n xs) (x:Value) (m:Nat) (news:List Value) (hs:Src P size tx x m news w)
  (h63:n + m ≤ maxLen) (hbytes:(n + m) * bytes ≤ 140737488355328) (hbase:base ≤ w.heap.size) :
  ∃ v' w',(Builtin.append_ #[t,tx] ty #[v,x]).run P w = .ok v' w' ∧ w'.ownsRow base e size v' (n + m) (xs ++ news) ∧ w.grownBy w' v.ownBlock ∧ (∀ k,v'.ownBlock = some k → v.ownBlock = some k ∨ w.heap.size ≤ k):=by
 subst hsize
 subst hby
 have hsmall:n + m ≤ 9223372036854775807:=by simp only [maxLen] at h63; omega
 have hl:=hs.newsLen
 have hlen:(xs ++ news).length = (n + m) * i.size:=by rw [List.length_append,hown.1,hl,Nat.add_mul]
 have grown:∀ old row,(w.drew.alloc (.cells ((xs ++ news).toArray ++ Builtin.zeroCells z.cells (grownCap w (n + m) old e - (n + m))) e)).ownsRow base e i.size (.slice (some ⟨w.heap.size,0,none⟩) (n + m) (grownCap w (n + m) old e)) (n + m) (xs ++ news) ∧
   w.grownBy (w.drew.alloc (.cells ((xs ++ news).toArray ++ Builtin.zeroCells z.cells (grownCap w (n + m) old e - (n + m))) e)) row:=by
  intro old row
  have hge:=grownCap_ge w (n + m) old e
  have hcm:=grownCap_le_maxLen w (n + m) old e h63
  refine ⟨⟨hlen,.inr ⟨w.heap.size,_,_,rfl,hbase,heap_alloc_new w.drew _,hge,hcm,?_,?_⟩⟩,⟨rfl,rfl,rfl,by simp,fun k hk _=>Below.heap_alloc w.drew _ k hk⟩⟩
  ·simp only [Array.size_append,List.size_toArray,hlen,size_zeroCells,hzs,← Nat.add_mul]
   congr 1
   omega
  ·simp only [Array.toList_append]
   rw [← hlen]
   exact List.take_left
 rcases hown.2 with ⟨rfl,rfl⟩ | ⟨g,cap,cur,rfl,hbg,hg,hnc,hcm,hcs,htake⟩
 ·have hx:xs = []:=List.eq_nil_of_length_eq_zero (by simpa using hown.1)
  subst hx
  by_cases hm:m = 0
  ·subst hm
   have hn:news = []:=List.eq_nil_of_length_eq_zero (by simpa using hl)
   subst hn
   refine ⟨.slice none 0 0,w,?_,World.ownsRow_nil w base e i.size,⟨rfl,rfl,rfl,Nat.le_refl _,fun _ _ _=>rfl⟩,fun _ h=>Or.inl h⟩
   rcases hs.kind with ⟨e',hk⟩ | hk <;> simp [Builtin.append_,run_underlying ht,run_underlying hk,sizeOf,typeInfo,hi,hs.len,hs.cells]
  ·have hr:=run_append_grow_src (P:=P) w t tx ty e i z ht hi hz none 0 0 [] (run_firstCells_none _ _ _ _ _) x m news hs (by omega) (by omega) (growslice_fits (by omega) hbytes)
   have hgr:=grown 0 (Value.ownBlock (.slice none 0 0))
   exact ⟨_,_,hr,hgr.1,hgr.2,fun k hk=>by simp [Value.ownBlock] at hk; right; omega⟩
 ·by_cases hroom:n + m ≤ cap
  ·have hfit:n * i.size + news.length ≤ cur.size:=by rw [hl,hcs,← Nat.add_mul]; exact Nat.mul_le_mul_right _ hroom
   have hst:=run_storeCells_at (P:=P) g (n * i.size) e news 0 cur w hg (by simpa using hfit) hs.one
   simp only [Nat.add_zero] at hst
   have hr:(Builtin.append_ #[t,tx] ty #[.slice (some ⟨g,0,none⟩) n cap,x]).run P w = .ok (.slice (some ⟨g,0,none⟩) (n + m) cap) (w.setRow g (cur.toList.take (n * i.size) ++ news ++ cur.toList.drop (n * i.size + news.length)).toArray):=by
    rcases hs.kind with ⟨e',hk⟩ | hk <;> simp [Builtin.append_,run_underlying ht,run_underlying hk,sizeOf,typeInfo,hi,hs.len,hroom,hs.cells,Addr.add_lit,hst]
   refine ⟨_,_,hr,⟨hlen,.inr ⟨g,cap,_,rfl,hbg,setRow_heap w g cur _ e _ hg,hroom,hcm,?_,?_⟩⟩,⟨rfl,rfl,rfl,by simp,fun k _ hk=>setRow_other w g k _ (fun e=>hk (by simp [Value.ownBlock,e]))⟩,fun k hk=>Or.inl (by simpa [Value.ownBlock] using hk)⟩
   ·simp only [List.size_toArray,List.length_append,List.length_take,List.length_drop,Array.length_toList]
    omega
   ·rw [htake,← hlen]
    exact List.take_left
  ·have holds:∀ j u,xs[j]? = some u → w.drew.cell? ((⟨g,0,none⟩:Addr).add j) = some u:=hown.cells (g:=g) rfl
   have hr:=run_append_grow_src (P:=P) w t tx ty e i z ht hi hz (some ⟨g,0,none⟩) n cap xs (run_firstCells_some _ _ _ _ _ _ xs hown.1 holds) x m news hs (by omega) (by omega) (growslice_fits (by omega) hbytes)
   have hgr:=grown cap (Value.ownBlock (.slice (some ⟨g,0,none⟩) n cap))
   exact ⟨_,_,hr,hgr.1,hgr.2,fun k hk=>by simp [Value.ownBlock] at hk; right; omega⟩

theorem wpList_append_src {ops:Array Oper} {rest:List Oper} {o:Oper} {a:Act} {Q:Exit → Act → World → Prop} (hgd:o.guard = none) (s x:Operand) (t tx:TypeId)
  (ho:o.op = .call { callee:=.builtin .append,args:=#[s,x],argTypes:=#[t,tx] })
  (base:Nat) (e:TypeId) (i:TypeInfo) (z:Value) (size bytes:Nat) (ht:P.underlying t = some (.slice e)) (hi:P.info? e = some i) (hz:i.zero = some z)
  (hsize:i.size = size) (hby:i.bytes = bytes) (hzs:z.cells.size = size)
  (v:Value) (n:Nat) (xs:List Value) (hv:a.eval s = v) (hown:w.ownsRow base e size v n xs) (u:Value) (m:Nat) (news:List Value) (hx:a.eval x = u) (hs:Src P size tx u m news w)
  (h63:n + m ≤ maxLen) (hbytes:(n + m) * bytes ≤ 140737488355328) (hbase:base ≤ w.heap.size)
  (h:∀ v' w',w'.ownsRow base e size v' (n + m) (xs ++ news) → w.grownBy w' v.ownBlock → wpList P ops Q rest (a.put o.dst v') w'):wpList P ops Q (o :: rest) a w:=by
 refine wpList_plain hgd fun K hK=>?_
 obtain ⟨v',w',hr,h2,h3,_⟩:=run_append_src (P:=P) t tx o.type base e i z size bytes ht hi hz hsize hby hzs v n xs hown u m news hs h63 hbytes hbase
 unfold Oper.wp execOp
 simp only [ho,resolve,invoke,builtin,Sem.run_bind,Sem.run_pure,Result.andThen_ok,List.map_toArray,List.map_cons,List.map_nil,hv,hx,hr]
 exact hK _ _ (h v' w' h2 h3)
end

theorem owns_below {w w':World} {base:Nat} {e:TypeId} {size:Nat} {v:Value} {n:Nat} {xs:List Value} (h:w.ownsRow base e size v n xs) (hb:Below w.heap.size w w'):w'.ownsRow base e size v n xs:=by
 refine ⟨h.1,?_⟩
 rcases h.2 with h2 | ⟨g,cap,cur,hv,hg,hh,r⟩
 ·exact Or.inl h2
 ·have hlt:g < w.heap.size:=by
   by_cases hlt:g < w.heap.size
   ·exact hlt
   ·rw [Array.getElem?_eq_none (by omega)] at hh; cases hh
  exact Or.inr ⟨g,cap,cur,hv,hg,by rw [hb.block g hlt]; exact hh,r⟩
theorem below_grown {B:Nat} {a w w':World} {e:TypeId} {size:Nat} {v:Value} {n:Nat} {xs:List Value} (h:Below B a w) (hown:w.ownsRow B e size v n xs) (hg:w.grownBy w' v.ownBlock) (hB:B ≤ w.heap.size):Below B a w':=by
 refine h.grown hg hB fun k hk=>?_
 rcases hown.2 with ⟨rfl,_⟩ | ⟨g,cap,cur,rfl,hbg,_⟩
 ·simp [Value.ownBlock] at hk
 ·simp [Value.ownBlock] at hk; omega
end Own
end Go.Proofs.YthmpepnikmdjpaaGreatDoor
namespace Go.Proofs.YthmpepnikmdjpaaGreatDoor
namespace Txt
def b (s:ByteArray) (k:Nat):Nat:=if h:k < s.size then (s[k]'h).toNat else 0
theorem b_eq (s:ByteArray) (k:Nat) (h:k < s.size):((s[k]'h).toNat:Int) = (b s k:Int):=by unfold b; rw [dif_pos h]
theorem b_get (s:ByteArray) (k:Nat) (h:k < s.size):(s.get! k).toNat = b s k:=by
 have e:=get_at s k h
 rw [Nat.add_zero] at e
 unfold b; rw [dif_pos h,e]
theorem b_lt (s:ByteArray) (k:Nat):b s k < 256:=by
 unfold b; split
 ·exact (s[k]).toNat_lt
 ·omega
theorem b_drop (s:ByteArray) (i k:Nat) (hi:i ≤ s.size):b (s.extract i s.size) k = b s (i + k):=by
 have hsz:(s.extract i s.size).size = s.size - i:=by simp [ByteArray.size_extract]
 unfold b
 by_cases h:i + k < s.size
 ·rw [dif_pos h,dif_pos (by omega)]
  rw [ByteArray.getElem_extract]
 ·rw [dif_neg h,dif_neg (by omega)]
def on (s:ByteArray) (k lo hi:Nat):Bool:=decide (k < s.size) && decide (lo ≤ b s k) && decide (b s k ≤ hi)
def sz (s:ByteArray) (i:Nat):Nat :=
 let c:=b s i
 if c < 128 then 1
 else if 194 ≤ c ∧ c ≤ 223 ∧ on s (i + 1) 128 191 = true then 2
 else if c = 224 ∧ on s (i + 1) 160 191 = true ∧ on s (i + 2) 128 191 = true then 3
 else if c = 237 ∧ on s (i + 1) 128 159 = true ∧ on s (i + 2) 128 191 = true then 3
 else if 225 ≤ c ∧ c ≤ 239 ∧ c ≠ 237 ∧ on s (i + 1) 128 191 = true ∧ on s (i + 2) 128 191 = true then 3
 else if c = 240 ∧ on s (i + 1) 144 191 = true ∧ on s (i + 2) 128 191 = true ∧ on s (i + 3) 128 191 = true then 4
 else if c = 244 ∧ on s (i + 1) 128 143 = true ∧ on s (i + 2) 128 191 = true ∧ on s (i + 3) 128 191 = true then 4
 else if 241 ≤ c ∧ c ≤ 243 ∧ on s (i + 1) 128 191 = true ∧ on s (i + 2) 128 191 = true ∧ on s (i + 3) 128 191 = true then 4
 else 0
theorem on_iff (s:ByteArray) (k lo hi:Nat):on s k lo hi = true ↔ k < s.size ∧ lo ≤ b s k ∧ b s k ≤ hi:=by
 unfold on; simp [and_assoc]
theorem dec_low (s:ByteArray) (i:Nat) (h:i < s.size) (hb:b s i < 128):Utf8.decode s i = (b s i,1):=by
 have e:=b_get s i h
 simp only [Utf8.decode,Nat.add_zero,e,hb,if_true]
theorem dec_high (s:ByteArray) (i:Nat) (h:i < s.size) (hb:128 ≤ b s i) :
  (sz s i = 0 ∧ Utf8.decode s i = (65533,1)) ∨ (2 ≤ sz s i ∧ i + sz s i ≤ s.size ∧ (Utf8.decode s i).2 = sz s i ∧ 128 ≤ (Utf8.decode s i).1):=by
 have e0:=b_get s i h
 have e1:=fun h'=>b_get s (i + 1) h'
 have e2:=fun h'=>b_get s (i + 2) h'
 have e3:=fun h'=>b_get s (i + 3) h'
 have hb0:=b_lt s i
 have hb1:=b_lt s (i + 1)
 have hb2:=b_lt s (i + 2)
 have hb3:=b_lt s (i + 3)
 have o1:=fun lo hi=>on_iff s (i + 1) lo hi
 have o2:=fun lo hi=>on_iff s (i + 2) lo hi
 have o3:=fun lo hi=>on_iff s (i + 3) lo hi
 unfold sz
 simp only [Utf8.decode,Nat.add_zero,e0,o1,o2,o3,Utf8.runeError,Utf8.valid]
 generalize (s.get! (i + 1)).toNat = a1 at *
 generalize (s.get! (i + 2)).toNat = a2 at *
 generalize (s.get! (i + 3)).toNat = a3 at *
 clear o1 o2 o3 e0
 generalize b s i = c0 at *
 generalize b s (i + 1) = c1 at *
 generalize b s (i + 2) = c2 at *
 generalize b s (i + 3) = c3 at *
 have k0:¬ c0 < 128:=by omega
 simp only [k0,if_false]
 by_cases r1:c0 < 192
 ·left
  have q1:(c0 / 32 == 6) = false:=beq_eq_false_iff_ne.2 (by omega)
  have q2:(c0 / 16 == 14) = false:=beq_eq_false_iff_ne.2 (by omega)
  have q3:(c0 / 8 == 30) = false:=beq_eq_false_iff_ne.2 (by omega)
  simp only [q1,q2,q3,Bool.false_and,Bool.false_eq_true,if_false,and_true]
  rw [if_neg (by omega),if_neg (by omega),if_neg (by omega),if_neg (by omega),if_neg (by omega),if_neg (by omega),if_neg (by omega)]
 by_cases r2:c0 < 224
 ·have q1:(c0 / 32 == 6) = true:=beq_iff_eq.2 (by omega)
  have q2:(c0 / 16 == 14) = false:=beq_eq_false_iff_ne.2 (by omega)
  have q3:(c0 / 8 == 30) = false:=beq_eq_false_iff_ne.2 (by omega)
  simp only [q1,q2,q3,Bool.false_and,Bool.false_eq_true,if_false,Bool.true_and]
  rw [if_neg (by omega:¬ (c0 = 224 ∧ _)),if_neg (by omega:¬ (c0 = 237 ∧ _)),if_neg (by omega:¬ (225 ≤ c0 ∧ _)),if_neg (by omega:¬ (c0 = 240 ∧ _)),if_neg (by omega:¬ (c0 = 244 ∧ _)),if_neg (by omega:¬ (241 ≤ c0 ∧ _))]
  by_cases h1:i + 1 < s.size
  ·obtain rfl:=e1 h1
   simp only [h1,decide_true,Bool.true_and,true_and,beq_iff_eq]
   repeat' split
   all_goals first | omega | (left; constructor <;> first | rfl | omega) | (right; refine ⟨?_,?_,?_,?_⟩ <;> first | rfl | omega)
  ·left
   simp [h1]
 by_cases r3:c0 < 240
 ·have q1:(c0 / 32 == 6) = false:=beq_eq_false_iff_ne.2 (by omega)
  have q2:(c0 / 16 == 14) = true:=beq_iff_eq.2 (by omega)
  have q3:(c0 / 8 == 30) = false:=beq_eq_false_iff_ne.2 (by omega)
  simp only [q1,q2,q3,Bool.false_and,Bool.false_eq_true,if_false,Bool.true_and]
  rw [if_neg (by omega:¬ (194 ≤ c0 ∧ _)),if_neg (by omega:¬ (c0 = 240 ∧ _)),if_neg (by omega:¬ (c0 = 244 ∧ _)),if_neg (by omega:¬ (241 ≤ c0 ∧ _))]
  by_cases h2:i + 2 < s.size
  ·have h1:i + 1 < s.size:=by omega
   obtain rfl:=e1 h1
   obtain rfl:=e2 h2
   simp only [h1,h2,decide_true,Bool.true_and,true_and,Bool.and_eq_true,beq_iff_eq,decide_eq_true_eq,Bool.or_eq_true]
   by_cases k1:a1 / 64 = 2
   ·by_cases k2:a2 / 64 = 2
    ·simp only [k1,k2,true_and,if_true]
     have g1:128 ≤ a1 ∧ a1 ≤ 191:=by omega
     have g2:128 ≤ a2 ∧ a2 ≤ 191:=by omega
     clear e1 e2 e3 k1 k2 q1 q2 q3 hb1 hb2 hb3 hb hb0
     repeat' split
     all_goals first | omega | (left; constructor <;> first | rfl | omega) | (right; refine ⟨?_,?_,?_,?_⟩ <;> first | rfl | omega)
    ·left
     rw [if_neg (by omega),if_neg (by omega),if_neg (by omega),if_neg (by omega)]
     exact ⟨rfl,rfl⟩
   ·left
    rw [if_neg (by omega),if_neg (by omega),if_neg (by omega),if_neg (by omega)]
    exact ⟨rfl,rfl⟩
  ·left
   simp [h2]
 by_cases r4:c0 < 248
 ·have q1:(c0 / 32 == 6) = false:=beq_eq_false_iff_ne.2 (by omega)
  have q2:(c0 / 16 == 14) = false:=beq_eq_false_iff_ne.2 (by omega)
  have q3:(c0 / 8 == 30) = true:=beq_iff_eq.2 (by omega)
  simp only [q1,q2,q3,Bool.false_and,Bool.false_eq_true,if_false,Bool.true_and]
  rw [if_neg (by omega:¬ (194 ≤ c0 ∧ _)),if_neg (by omega:¬ (c0 = 224 ∧ _)),if_neg (by omega:¬ (c0 = 237 ∧ _)),if_neg (by omega:¬ (225 ≤ c0 ∧ _))]
  by_cases h3:i + 3 < s.size
  ·have h1:i + 1 < s.size:=by omega
   have h2:i + 2 < s.size:=by omega
   obtain rfl:=e1 h1
   obtain rfl:=e2 h2
   obtain rfl:=e3 h3
   simp only [h1,h2,h3,decide_true,Bool.true_and,true_and,Bool.and_eq_true,beq_iff_eq,decide_eq_true_eq,Bool.or_eq_true]
   by_cases k:(a1 / 64 = 2 ∧ a2 / 64 = 2) ∧ a3 / 64 = 2
   ·have g1:128 ≤ a1 ∧ a1 ≤ 191:=by omega
    have g2:128 ≤ a2 ∧ a2 ≤ 191:=by omega
    have g3:128 ≤ a3 ∧ a3 ≤ 191:=by omega
    rw [if_pos k]
    clear e1 e2 e3 k q1 q2 q3 hb1 hb2 hb3 hb hb0
    repeat' split
    all_goals first | omega | (left; constructor <;> first | rfl | omega) | (right; refine ⟨?_,?_,?_,?_⟩ <;> first | rfl | omega)
   ·left
    rw [if_neg k,if_neg (by omega),if_neg (by omega),if_neg (by omega)]
    exact ⟨rfl,rfl⟩
  ·left
   simp [h3]
 ·left
  have q1:(c0 / 32 == 6) = false:=beq_eq_false_iff_ne.2 (by omega)
  have q2:(c0 / 16 == 14) = false:=beq_eq_false_iff_ne.2 (by omega)
  have q3:(c0 / 8 == 30) = false:=beq_eq_false_iff_ne.2 (by omega)
  simp only [q1,q2,q3,Bool.false_and,Bool.false_eq_true,if_false,and_true]
  rw [if_neg (by omega),if_neg (by omega),if_neg (by omega),if_neg (by omega),if_neg (by omega),if_neg (by omega),if_neg (by omega)]
end Txt
end Go.Proofs.YthmpepnikmdjpaaGreatDoor
namespace Go.Proofs.YthmpepnikmdjpaaGreatDoor
set_option linter.unusedSimpArgs false
set_option linter.unusedVariables false
namespace Ver
abbrev Bs:=List UInt8
def dig (c:UInt8):Bool:=decide (48 ≤ c) && decide (c ≤ 57)
def alf (c:UInt8):Bool:=(decide (97 ≤ c) && decide (c ≤ 122)) || (decide (65 ≤ c) && decide (c ≤ 90))
def rk (c:UInt8):Int:=if c = 126 then -1 else if alf c then 1 + (c.toNat:Int) else 300 + (c.toNat:Int)
def dv (c:UInt8):Nat:=c.toNat - 48
def key:Option Nat → Bs → List Int
 | none,[]=>[]
 | some v,[]=>[(v:Int)]
 | none,c :: r=>if dig c then 0 :: key (some (dv c)) r else rk c :: key none r
 | some v,c :: r=>if dig c then key (some (10 * v + dv c)) r else (v:Int) :: rk c :: key none r
def sgn (x y:Int):Int:=if x < y then -1 else if y < x then 1 else 0
def orr (p q:Int):Int:=if p ≠ 0 then p else q
def lex0:List Int → Int
 | []=>0
 | y :: ys=>orr (sgn 0 y) (lex0 ys)
def lex:List Int → List Int → Int
 | [],ys=>lex0 ys
 | x :: xs,[]=>orr (sgn x 0) (lex xs [])
 | x :: xs,y :: ys=>orr (sgn x y) (lex xs ys)
theorem lex_nn:lex [] [] = 0:=rfl
theorem lex_nc (y:Int) (ys:List Int):lex [] (y :: ys) = orr (sgn 0 y) (lex [] ys):=rfl
theorem lex_cn (x:Int) (xs:List Int):lex (x :: xs) [] = orr (sgn x 0) (lex xs []):=rfl
theorem lex_cc (x y:Int) (xs ys:List Int):lex (x :: xs) (y :: ys) = orr (sgn x y) (lex xs ys):=rfl
def part (a b:Bs):Int:=lex (key none a) (key none b)
/-! ### an order -/
theorem sgn_self (x:Int):sgn x x = 0:=by unfold sgn; simp
theorem sgn_turn (x y:Int):sgn y x = - sgn x y:=by unfold sgn; repeat' split
                                                   all_goals omega
theorem orr_turn (p q:Int):orr (-p) (-q) = - orr p q:=by unfold orr; repeat' split
                                                         all_goals omega
theorem orr_zero (q:Int):orr 0 q = q:=by simp [orr]
theorem lex_turn:∀ x y:List Int,lex y x = - lex x y
 | [],[]=>by simp [lex_nn]
 | [],y :: ys=>by rw [lex_nc,lex_cn,lex_turn [] ys,sgn_turn 0 y,orr_turn]
 | x :: xs,[]=>by rw [lex_nc,lex_cn,lex_turn xs [],sgn_turn x 0,orr_turn]
 | x :: xs,y :: ys=>by rw [lex_cc,lex_cc,lex_turn xs ys,sgn_turn x y,orr_turn]
/-! ### rows side by side -/
theorem lex_pad:∀ x z:List Int,lex (x ++ [0]) z = lex x z
 | [],[]=>rfl
 | [],z :: zs=>by
  simp only [List.nil_append,lex_cc,lex_nc]
 | x :: xs,[]=>by
  simp only [List.cons_append,lex_cn,lex_pad xs []]
 | x :: xs,z :: zs=>by
  simp only [List.cons_append,lex_cc,lex_pad xs zs]
theorem lex_pads (x z:List Int):lex (x ++ [0,0]) z = lex x z:=by
 rw [show x ++ [0,0] = (x ++ [0]) ++ [0] by simp,lex_pad,lex_pad]
theorem rk_ne (c:UInt8):rk c ≠ 0:=by unfold rk; repeat' split
                                     all_goals omega
theorem sgn_ne {x y:Int} (h:x ≠ y):sgn x y ≠ 0:=by unfold sgn; repeat' split
                                                   all_goals omega
theorem orr_ne {p:Int} (h:p ≠ 0) (q:Int):orr p q = p:=by unfold orr; rw [if_pos h]
theorem orr_orr (p q r:Int):orr (orr p q) r = orr p (orr q r):=by
 unfold orr; by_cases h:p = 0 <;> simp [h]
theorem lex_sides:∀ (x y:List Int) (k l:List Int),(∀ v ∈ x,v ≠ 0) → (∀ v ∈ y,v ≠ 0) → lex (x ++ 0 :: k) (y ++ 0 :: l) = orr (lex x y) (lex k l)
 | [],[],k,l,_,_=>by simp [lex_cc,lex_nn,sgn_self,orr_zero]
 | [],y :: ys,k,l,_,hy=>by
  have h:=sgn_ne (x:=0) (y:=y) (Ne.symm (hy y (.head _)))
  simp only [List.nil_append,List.cons_append,lex_cc,lex_nc,orr_ne h]
 | x :: xs,[],k,l,hx,_=>by
  have h:=sgn_ne (x:=x) (y:=0) (hx x (.head _))
  simp only [List.nil_append,List.cons_append,lex_cc,lex_cn,orr_ne h]
 | x :: xs,y :: ys,k,l,hx,hy=>by
  simp only [List.cons_append,lex_cc,lex_sides xs ys k l (fun v h=>hx v (.tail _ h)) (fun v h=>hy v (.tail _ h)),orr_orr]
/-! ### a part's pieces -/
def val (v:Nat) (l:Bs):Nat:=l.foldl (fun v c=>10 * v + dv c) v
theorem val_nil (v:Nat):val v [] = v:=rfl
theorem val_cons (v:Nat) (c:UInt8) (r:Bs):val v (c :: r) = val (10 * v + dv c) r:=by unfold val; rw [List.foldl_cons]
theorem val_first (c:UInt8) (r:Bs):val 0 (c :: r) = val (dv c) r:=by rw [val_cons,Nat.mul_zero,Nat.zero_add]
theorem key_val:∀ (d r:Bs) (v:Nat),(∀ c ∈ d,dig c = true) → key (some v) (d ++ r) = key (some (val v d)) r
 | [],_,_,_=>rfl
 | c :: d,r,v,h=>by
  rw [List.cons_append,key,if_pos (h c (.head _)),key_val d r _ fun x hx=>h x (.tail _ hx),val_cons]
theorem key_signs:∀ (x r:Bs),(∀ c ∈ x,dig c = false) → key none (x ++ r) = x.map rk ++ key none r
 | [],_,_=>rfl
 | c :: x,r,h=>by
  rw [List.cons_append,key,h c (.head _),if_neg (by simp),key_signs x r fun y hy=>h y (.tail _ hy)]
  rfl
def headNo (p:UInt8 → Bool):Bs → Prop
 | []=>True
 | c :: _=>p c = false
theorem lex_pieces (x d r:Bs) (z:List Int) (hx:∀ c ∈ x,dig c = false) (hd:∀ c ∈ d,dig c = true) (hr:headNo dig r) (he:d = [] → r = []) :
  lex (key none (x ++ (d ++ r))) z = lex (x.map rk ++ 0 :: ((val 0 d:Nat):Int) :: key none r) z:=by
 rw [key_signs _ _ hx]
 cases d with
 | nil =>
  rw [he rfl]
  show lex (x.map rk ++ []) z = lex (x.map rk ++ [0,0]) z
  rw [lex_pads,List.append_nil]
 | cons c d =>
  rw [List.cons_append,key,if_pos (hd c (.head _)),key_val d r _ fun y hy=>hd y (.tail _ hy)]
  rw [val_first]
  cases r with
  | nil=>rfl
  | cons q r =>
   have hq:dig q = false:=hr
   rw [key,hq,key,hq]
   simp
theorem lex_pieces2 (x d r:Bs) (z:List Int) (hx:∀ c ∈ x,dig c = false) (hd:∀ c ∈ d,dig c = true) (hr:headNo dig r) (he:d = [] → r = []) :
  lex z (key none (x ++ (d ++ r))) = lex z (x.map rk ++ 0 :: ((val 0 d:Nat):Int) :: key none r):=by
 rw [lex_turn (key none (x ++ (d ++ r))) z,lex_pieces x d r z hx hd hr he,← lex_turn]
theorem part_round (x d r y f s:Bs) (hx:∀ c ∈ x,dig c = false) (hd:∀ c ∈ d,dig c = true) (hr:headNo dig r) (he:d = [] → r = [])
  (hy:∀ c ∈ y,dig c = false) (hf:∀ c ∈ f,dig c = true) (hs:headNo dig s) (hg:f = [] → s = []) :
  part (x ++ (d ++ r)) (y ++ (f ++ s)) = orr (lex (x.map rk) (y.map rk)) (orr (sgn (val 0 d) (val 0 f)) (part r s)):=by
 unfold part
 rw [lex_pieces x d r _ hx hd hr he,lex_pieces2 y f s _ hy hf hs hg,lex_sides _ _ _ _ (fun v h=>?_) (fun v h=>?_)]
 ·rfl
 ·obtain ⟨c,_,rfl⟩:=List.mem_map.1 h; exact rk_ne c
 ·obtain ⟨c,_,rfl⟩:=List.mem_map.1 h; exact rk_ne c
/-! ### rows of digits -/
def nought (c:UInt8):Bool:=decide (c = 48)
def strip:Bs → Bs
 | []=>[]
 | c :: r=>if c = 48 then strip r else c :: r
theorem val_strip:∀ d:Bs,val 0 (strip d) = val 0 d
 | []=>rfl
 | c :: d=>by
  unfold strip
  by_cases h:c = 48
  ·subst h; rw [if_pos rfl,val_strip d,val_first]; rfl
  ·rw [if_neg h]
theorem dv_lt {c:UInt8} (h:dig c = true):dv c < 10:=by
 have h1:=UInt8.toNat_lt c
 unfold dig at h
 simp [UInt8.le_iff_toNat_le] at h
 unfold dv; omega
theorem dv_pos {c:UInt8} (h:dig c = true) (h0:c ≠ 48):0 < dv c:=by
 unfold dig at h
 simp [UInt8.le_iff_toNat_le] at h
 have:c.toNat ≠ 48:=fun e=>h0 (UInt8.toNat_inj.1 (by simpa using e))
 unfold dv; omega
theorem val_lt:∀ (d f:Bs) (v u:Nat),d.length = f.length → (∀ c ∈ d,dig c = true) → v < u → val v d < val u f
 | [],[],_,_,_,_,h=>h
 | c :: d,e :: f,v,u,hl,hd,h=>by
  have hc:=dv_lt (hd c (.head _))
  rw [val_cons,val_cons]
  exact val_lt d f _ _ (by simpa using hl) (fun x hx=>hd x (.tail _ hx)) (by omega)
 | [],_ :: _,_,_,hl,_,_=>by simp at hl
 | _ :: _,[],_,_,hl,_,_=>by simp at hl
theorem val_same:∀ (d f:Bs) (v:Nat),d.length = f.length → (∀ c ∈ d,dig c = true) → (∀ c ∈ f,dig c = true) → sgn (val v d) (val v f) = Lib.compareBytes d f
 | [],[],v,_,_,_=>by rw [sgn_self]; rfl
 | c :: d,e :: f,v,hl,hd,hf=>by
  have hl':d.length = f.length:=by simpa using hl
  have h1:=hd c (.head _)
  have h2:=hf e (.head _)
  unfold dig at h1 h2
  simp [UInt8.le_iff_toNat_le] at h1 h2
  rw [Lib.compareBytes,val_cons,val_cons]
  by_cases hlt:c < e
  ·rw [if_pos hlt]
   have k:dv c < dv e:=by have:=UInt8.lt_iff_toNat_lt.1 hlt; unfold dv; omega
   have:=val_lt d f (10 * v + dv c) (10 * v + dv e) hl' (fun x hx=>hd x (.tail _ hx)) (by omega)
   unfold sgn; rw [if_pos (by omega)]
  ·rw [if_neg hlt]
   by_cases hgt:e < c
   ·rw [if_pos hgt]
    have k:dv e < dv c:=by have:=UInt8.lt_iff_toNat_lt.1 hgt; unfold dv; omega
    have:=val_lt f d (10 * v + dv e) (10 * v + dv c) hl'.symm (fun x hx=>hf x (.tail _ hx)) (by omega)
    unfold sgn; rw [if_neg (by omega),if_pos (by omega)]
   ·rw [if_neg hgt]
    have:c = e:=UInt8.toNat_inj.1 (by have a:=mt UInt8.lt_iff_toNat_lt.2 hlt; have b:=mt UInt8.lt_iff_toNat_lt.2 hgt; omega)
    subst this
    exact val_same d f _ hl' (fun x hx=>hd x (.tail _ hx)) (fun x hx=>hf x (.tail _ hx))
 | [],_ :: _,_,hl,_,_=>by simp at hl
 | _ :: _,[],_,hl,_,_=>by simp at hl
theorem val_up:∀ (d:Bs) (v:Nat),v * 10 ^ d.length ≤ val v d
 | [],v=>by simp [val_nil]
 | c :: d,v=>by
  have:=val_up d (10 * v + dv c)
  rw [val_cons,List.length_cons,Nat.pow_succ]
  refine Nat.le_trans ?_ this
  rw [Nat.mul_comm (10 ^ d.length) 10,← Nat.mul_assoc,Nat.mul_comm v 10]
  exact Nat.mul_le_mul_right _ (by omega)
theorem val_down:∀ (d:Bs) (v:Nat),(∀ c ∈ d,dig c = true) → val v d < (v + 1) * 10 ^ d.length
 | [],v,_=>by simp [val_nil]
 | c :: d,v,h=>by
  have:=val_down d (10 * v + dv c) fun x hx=>h x (.tail _ hx)
  have hc:=dv_lt (h c (.head _))
  rw [val_cons,List.length_cons,Nat.pow_succ]
  refine Nat.lt_of_lt_of_le this ?_
  rw [Nat.mul_comm (10 ^ d.length) 10,← Nat.mul_assoc]
  exact Nat.mul_le_mul_right _ (by omega)
theorem val_short {d f:Bs} (hd:∀ c ∈ d,dig c = true) (hf:∀ c ∈ f,dig c = true) (h0:headNo nought f) (hl:d.length < f.length):val 0 d < val 0 f:=by
 have h1:=val_down d 0 hd
 cases f with
 | nil=>simp at hl
 | cons c f =>
  have hc:c ≠ 48:=by simpa [headNo,nought] using h0
  have h2:=val_up f (dv c)
  have h3:=dv_pos (hf c (.head _)) hc
  have h4:10 ^ d.length ≤ 10 ^ f.length:=Nat.pow_le_pow_right (by omega) (by simp at hl; omega)
  have h5:1 * 10 ^ f.length ≤ dv c * 10 ^ f.length:=Nat.mul_le_mul_right _ (by omega)
  rw [val_first]
  omega
theorem strip_head:∀ d:Bs,headNo nought (strip d)
 | []=>trivial
 | c :: d=>by
  unfold strip
  by_cases h:c = 48
  ·rw [if_pos h]; exact strip_head d
  ·rw [if_neg h]; simp [headNo,nought,h]
theorem strip_sub:∀ d:Bs,∀ c ∈ strip d,c ∈ d
 | [],_,h=>h
 | x :: d,c,h=>by
  unfold strip at h
  by_cases e:x = 48
  ·rw [if_pos e] at h; exact .tail _ (strip_sub d c h)
  ·rwa [if_neg e] at h
def numB (a b:Bs):Int:=orr (sgn (strip a).length (strip b).length) (Lib.compareBytes (strip a) (strip b))
theorem num_val {d f:Bs} (hd:∀ c ∈ d,dig c = true) (hf:∀ c ∈ f,dig c = true):numB d f = sgn (val 0 d) (val 0 f):=by
 rw [← val_strip d,← val_strip f]
 have hd':∀ c ∈ strip d,dig c = true:=fun c h=>hd c (strip_sub d c h)
 have hf':∀ c ∈ strip f,dig c = true:=fun c h=>hf c (strip_sub f c h)
 unfold numB
 by_cases h1:(strip d).length < (strip f).length
 ·have:=val_short hd' hf' (strip_head f) h1
  rw [show sgn ((strip d).length:Int) (strip f).length = -1 by unfold sgn; rw [if_pos (by omega)],show sgn (val 0 (strip d):Int) (val 0 (strip f)) = -1 by unfold sgn; rw [if_pos (by omega)]]
  rfl
 ·by_cases h2:(strip f).length < (strip d).length
  ·have:=val_short hf' hd' (strip_head d) h2
   rw [show sgn ((strip d).length:Int) (strip f).length = 1 by unfold sgn; rw [if_neg (by omega),if_pos (by omega)],show sgn (val 0 (strip d):Int) (val 0 (strip f)) = 1 by unfold sgn; rw [if_neg (by omega),if_pos (by omega)]]
   rfl
  ·rw [val_same _ _ 0 (by omega) hd' hf',show sgn ((strip d).length:Int) (strip f).length = 0 by unfold sgn; rw [if_neg (by omega),if_neg (by omega)],orr_zero]
theorem part_digits {d f:Bs} (hd:∀ c ∈ d,dig c = true) (hf:∀ c ∈ f,dig c = true):part d f = sgn (val 0 d) (val 0 f):=by
 have:=part_round [] d [] [] f [] (fun _ h=>by cases h) hd trivial (fun _=>rfl) (fun _ h=>by cases h) hf trivial (fun _=>rfl)
 simp only [List.nil_append,List.append_nil,List.map_nil] at this
 rw [this]
 have e:part [] [] = 0:=rfl
 rw [e]
 show orr (lex [] []) (orr _ 0) = _
 rw [show lex [] [] = 0 from rfl,orr_zero]
 unfold orr; split <;> omega
/-! ### versions -/
def sig (c:UInt8):Bool:=alf c || dig c || decide (c = 43) || decide (c = 46) || decide (c = 126)
def ups (c:UInt8):Bool:=sig c || decide (c = 45) || decide (c = 58)
def cut1 (x:UInt8):Bs → Option (Bs × Bs)
 | []=>none
 | c :: r=>if c = x then some ([],r) else (cut1 x r).map fun p=>(c :: p.1,p.2)
def cutZ (x:UInt8):Bs → Option (Bs × Bs)
 | []=>none
 | c :: r=>match cutZ x r with
  | some p=>some (c :: p.1,p.2)
  | none=>if c = x then some ([],r) else none
def upOK (u:Bs):Bool:=match u with
 | []=>false
 | c :: _=>dig c && u.all ups
def epochOf (s:Bs):Option (Bs × Bs):=match cut1 58 s with
 | none=>some ([48],s)
 | some (e,r)=>if 1 ≤ e.length ∧ e.length ≤ 9 ∧ e.all dig = true then some (e,r) else none
def revOf (s:Bs):Option (Bs × Bs):=match cutZ 45 s with
 | none=>some (s,[])
 | some (u,v)=>if v ≠ [] ∧ v.all sig = true then some (u,v) else none
def parse (s:Bs):Option (Bs × Bs × Bs) :=
 if 1 ≤ s.length ∧ s.length ≤ 48 then
  match epochOf s with
  | none=>none
  | some (e,r)=>match revOf r with
   | none=>none
   | some (u,v)=>if upOK u = true then some (e,u,v) else none
 else none
def cmpP (p q:Bs × Bs × Bs):Int:=orr (part p.1 q.1) (orr (part p.2.1 q.2.1) (part p.2.2 q.2.2))
def cmpV (a b:Bs):Int:=match parse a,parse b with
 | some p,some q=>cmpP p q
 | _,_=>0
end Ver
end Go.Proofs.YthmpepnikmdjpaaGreatDoor

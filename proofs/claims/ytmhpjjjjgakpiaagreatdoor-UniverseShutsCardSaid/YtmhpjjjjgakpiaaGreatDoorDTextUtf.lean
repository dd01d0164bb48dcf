/-
Blocks of memory that a call has made, whole; what a call may have changed. No program is named here. Which field a name is of: isAny, and the library's ContainsFunc and IndexFunc beneath it. What a value has within, by its kind: type assertions, the kind's name; demand's panic. What must be of a kind: what is within, or that panic; values of a text, a count, a yes. Try: of a function that returns, of one that panics with a Wrong, of one that panics with a text, of none. readYes; Read, by the kind of the field: what it tells is what the kind's own reader tells. awake: what every program must know. Memory that a call makes: append of whatever yields cells (a slice, nil, a string) onto a row of the call's own; a row of numbers that reads as a list. No program is named here. What a text's characters are, by bytes: the reference's reading of a string at a place, held against the model's own decoding.
-/
import Derived.WalkKit
import Derived.Laws.CopyRow
import Derived.Deep.MidRow
import Derived.Lib.Hide
import Derived.Deep.RegionLaw
import Derived.Test.YtmhpjjjjgakpiaaGreatDoorProg
import Derived.Laws.Entries
import Derived.WalkLawsBesides
import Derived.Handy
import Derived.Lib.Strings
import Derived.Defers
import Derived.Recover
import Derived.Laws.Pointers
import Derived.Deep.AppendSrc
import Derived.OwnWalk
import Derived.Laws.RangeAny
namespace Go.Proofs.YtmhpjjjjgakpiaaGreatDoor
open Go.RowKit
namespace Blk

def Is (w:World) (b:Nat) (T:TypeId) (cs:Array Value):Prop:=w.heap[b]? = some (.cells cs T (0,0))
theorem Is.lt {w b T cs} (h:Is w b T cs):b < w.heap.size:=(Array.getElem?_eq_some_iff.1 h).1
theorem Is.cell {w b T cs} (h:Is w b T cs) (i:Nat):w.cell? ⟨b,i,none⟩ = cs[i]?:=cell_of_row w b i cs T (0,0) h
theorem Is.at {w b T cs} (h:Is w b T cs) {i:Nat} {v:Value} (hv:cs[i]? = some v):w.cell? ⟨b,i,none⟩ = some v:=(h.cell i).trans hv
theorem Is.free {w b T cs} (h:Is w b T cs) (i:Nat):w.frozen? ⟨b,i,none⟩ = false:=frozen_of_row w b i cs T h
theorem Is.alloc {w b T cs} (h:Is w b T cs) (o:Obj):Is (w.alloc o) b T cs:=(Below.heap_alloc w o b h.lt).trans h
theorem Is.new (w:World) (T:TypeId) (cs:Array Value):Is (w.alloc (.cells cs T)) w.heap.size T cs:=heap_alloc_new w _
theorem Is.drew {w b T cs} (h:Is w b T cs):Is w.drew b T cs:=h
theorem Is.set {w b T cs} (h:Is w b T cs) (i:Nat) (v:Value):Is (w.setCell ⟨b,i,none⟩ v) b T (cs.setIfInBounds i v):=heap_setCell_same w b i cs T v h
theorem Is.row {w b T cs} (h:Is w b T cs) (ds:Array Value):Is (w.setRow b ds) b T ds:=setRow_heap w b cs ds T (0,0) h
theorem Is.inj {w b T T' cs cs'} (h:Is w b T cs) (k:Is w b T' cs'):T = T' ∧ cs = cs':=by
 unfold Is at h k; rw [h] at k; cases k; exact ⟨rfl,rfl⟩
theorem Is.range {w b T cs} (h:Is w b T cs) (o n:Nat):w.rangeAt b o (cs.extract o (o + n)).toList:=World.rangeAt_of_block h o n
theorem Is.there {w b T cs} (h:Is w b T cs) (o n:Nat) (hn:o + n ≤ cs.size):w.there b o n:=fun j hj=>⟨by rw [h.cell,Array.getElem?_eq_getElem (by omega)]; rfl,h.free _⟩
theorem setCells_row {w b T}:∀ (vs:List Value) (cs:Array Value) (o:Nat),Is w b T cs → o + vs.length ≤ cs.size → w.setCells b o vs = w.setRow b (cs.toList.take o ++ vs ++ cs.toList.drop (o + vs.length)).toArray:=by
 intro vs
 induction vs generalizing w with
 | nil=>intro cs o h _; simp [World.setCells,setRow_self w b cs T (0,0) h]
 | cons v r ih =>
  intro cs o h hl
  have hl':o + (r.length + 1) ≤ cs.size:=by simpa using hl
  rw [World.setCells,ih (cs.setIfInBounds o v) (o + 1) (h.set o v) (by simp; omega),setCell_eq_setRow w b o cs T (0,0) v h,setRow_setRow]
  congr 2
  have e:=list_seg_step cs.toList o v r (by simpa using hl')
  simpa [Array.toList_setIfInBounds,Nat.add_assoc] using e
theorem Is.cells {w b T cs} (h:Is w b T cs) (o:Nat) (vs:List Value) (hl:o + vs.length ≤ cs.size):Is (w.setCells b o vs) b T (cs.toList.take o ++ vs ++ cs.toList.drop (o + vs.length)).toArray:=by
 rw [setCells_row vs cs o h hl]; exact h.row _

structure Chg (S:Nat → Prop) (w w':World):Prop where
 os:w'.os = w.os
 tape:w'.tape = w.tape
 output:w'.output = w.output
 size:w.heap.size ≤ w'.heap.size
 block:∀ k,k < w.heap.size → ¬ S k → w'.heap[k]? = w.heap[k]?
theorem Chg.refl (S:Nat → Prop) (w:World):Chg S w w:=⟨rfl,rfl,rfl,Nat.le_refl _,fun _ _ _=>rfl⟩
theorem Chg.trans {S:Nat → Prop} {a b c:World} (h:Chg S a b) (k:Chg S b c):Chg S a c :=
 ⟨k.os.trans h.os,k.tape.trans h.tape,k.output.trans h.output,Nat.le_trans h.size k.size,fun i hi hn=>(k.block i (Nat.lt_of_lt_of_le hi h.size) hn).trans (h.block i hi hn)⟩
theorem Chg.mono {S S':Nat → Prop} {w w':World} (h:Chg S w w') (hS:∀ k,k < w.heap.size → S k → S' k):Chg S' w w' :=
 ⟨h.os,h.tape,h.output,h.size,fun k hk hn=>h.block k hk fun hs=>hn (hS k hk hs)⟩
theorem Chg.drew {S:Nat → Prop} {a w:World} (h:Chg S a w):Chg S a w.drew:=⟨h.os,h.tape,h.output,h.size,h.block⟩
theorem Chg.one {S:Nat → Prop} (w:World) (o:Obj):Chg S w (w.alloc o):=⟨rfl,rfl,rfl,by simp,fun k hk _=>Below.heap_alloc w o k hk⟩
theorem Chg.alloc {S:Nat → Prop} {a w:World} (h:Chg S a w) (o:Obj):Chg S a (w.alloc o):=h.trans (Chg.one w o)
theorem Chg.setCell {S:Nat → Prop} {a w:World} (h:Chg S a w) {p:Addr} (hp:S p.block) (u:Value):Chg S a (w.setCell p u) :=
 h.trans ⟨rfl,rfl,rfl,by simp [World.setCell],fun k _ hn=>heap_setCell_other w p k u fun e=>hn (e ▸ hp)⟩
theorem Chg.setAt {S:Nat → Prop} {a w:World} {b o:Nat} {u:Value} (h:Chg S a w) (hp:S b):Chg S a (w.setCell ⟨b,o,none⟩ u):=h.setCell (p:=⟨b,o,none⟩) hp u
theorem Chg.setRow {S:Nat → Prop} {a w:World} (h:Chg S a w) {g:Nat} (hg:S g) (cs:Array Value):Chg S a (w.setRow g cs) :=
 h.trans ⟨rfl,rfl,rfl,by simp [World.setRow],fun k _ hn=>setRow_other w g k cs fun e=>hn (e ▸ hg)⟩
theorem Chg.grown {S:Nat → Prop} {a w w':World} {row:Option Nat} (h:Chg S a w) (hg:w.grownBy w' row) (hr:∀ k,row = some k → k < a.heap.size → S k):Chg S a w' :=
 ⟨hg.os.trans h.os,hg.tape.trans h.tape,hg.output.trans h.output,Nat.le_trans h.size hg.size,fun k hk hn=>(hg.block k (Nat.lt_of_lt_of_le hk h.size) (fun e=>hn (hr k e.symm hk))).trans (h.block k hk hn)⟩
theorem Chg.ofBelow {S:Nat → Prop} {w w':World} {B:Nat} (h:Below B w w') (hS:∀ k,k < w.heap.size → B ≤ k → S k):Chg S w w' :=
 ⟨h.os,h.tape,h.output,h.size,fun k hk hn=>h.block k (Nat.lt_of_not_le fun hB=>hn (hS k hk hB))⟩
theorem Chg.ofBelow' {S:Nat → Prop} {w w':World} (h:Below w.heap.size w w'):Chg S w w':=Chg.ofBelow h fun k hk hB=>absurd hk (by omega)
theorem Chg.below {S:Nat → Prop} {B:Nat} {w w':World} (h:Chg S w w') (hS:∀ k,S k → B ≤ k) (hB:B ≤ w.heap.size):Below B w w' :=
 ⟨h.os,h.tape,h.output,h.size,fun k hk=>h.block k (by omega) fun hs=>by have:=hS k hs; omega⟩
theorem Chg.is {S:Nat → Prop} {w w':World} (h:Chg S w w') {b T cs} (k:Is w b T cs) (hn:¬ S b):Is w' b T cs:=(h.block b k.lt hn).trans k
theorem Chg.owns {S:Nat → Prop} {w w':World} (h:Chg S w w') {base:Nat} {e:TypeId} {size:Nat} {v:Value} {n:Nat} {xs:List Value} (k:w.ownsRow base e size v n xs) (hn:∀ b,v.ownBlock = some b → ¬ S b):w'.ownsRow base e size v n xs:=by
 refine ⟨k.1,?_⟩
 rcases k.2 with h2 | ⟨g,cap,cur,hv,hg,hh,r⟩
 ·exact Or.inl h2
 ·exact Or.inr ⟨g,cap,cur,hv,hg,h.is hh (hn g (by rw [hv]; rfl)),r⟩

/-! ### copy: elements of any size,a row of the call's own as the destination -/
section
variable {P:Program}
end
end Blk
end Go.Proofs.YtmhpjjjjgakpiaaGreatDoor
namespace Go.Proofs.YtmhpjjjjgakpiaaGreatDoor
open Go.RowKit
set_option linter.unusedSimpArgs false
set_option linter.unusedVariables false
namespace Va
theorem below_drewN (w:World):∀ n,Below w.heap.size w (w.drewN n)
 | 0=>Below.refl _ _
 | n + 1=>(below_drewN w.drew n).mono (Nat.le_refl _) |> fun h=>⟨h.os,h.tape,h.output,h.size,h.block⟩
theorem lt_cell {w:World} {p:Addr} {v:Value} (h:w.cell? p = some v):p.block < w.heap.size:=by
 unfold World.cell? at h
 cases hb:w.heap[p.block]? with
 | none=>rw [hb] at h; cases h
 | some x=>exact (Array.getElem?_eq_some_iff.1 hb).1
end Va
end Go.Proofs.YtmhpjjjjgakpiaaGreatDoor
namespace Go.Proofs.YtmhpjjjjgakpiaaGreatDoor
open Go.RowKit
set_option linter.unusedSimpArgs false
set_option linter.unusedVariables false
namespace Va
def asT (T:TypeId) (z iv:Value):Value:=match iv with
 | .iface t x=>if t = T then x else z
 | _=>z
def asB (T:TypeId) (iv:Value):Bool:=match iv with
 | .iface t _=>decide (t = T)
 | _=>false
def IsI (iv:Value):Prop:=iv = .nilIface ∨ ∃ t x,iv = .iface t x
theorem run_assert {P:Program} {T:TypeId} {u:TypeDesc} {z:Value} (hu:P.underlying T = some u) (hn:∀ ms,u ≠ .interface ms) (hz:(P.info? T).map (·.zero) = some (some z)) {iv:Value} (h:IsI iv) (xT:TypeId) (w:World) :
  (Instr.typeAssert iv xT T true).run P w = .ok (.tuple #[asT T z iv,.bool (asB T iv)]) w:=by
 obtain ⟨i,hi,hz⟩:=Option.map_eq_some_iff.1 hz
 rcases h with rfl | ⟨t,x,rfl⟩
 ·cases u <;> first
   | exact absurd rfl (hn _)
   | simp [Instr.typeAssert,run_underlying hu,typeInfo,zeroValue,hi,hz,asT,asB]
 ·by_cases e:t = T
  ·cases u <;> first
    | exact absurd rfl (hn _)
    | simp [Instr.typeAssert,run_underlying hu,e,asT,asB]
  ·cases u <;> first
    | exact absurd rfl (hn _)
    | simp [Instr.typeAssert,run_underlying hu,e,typeInfo,zeroValue,hi,hz,asT,asB]
theorem as_provides {iv:Value} (h:IsI iv) (w:World):(Instr.typeAssert iv 20 38 true).run Tryz.prog w = .ok (.tuple #[asT 38 (.slice none 0 0) iv,.bool (asB 38 iv)]) w :=
 run_assert Tryz.underlying38 (fun _ e=>by cases e) (by kernel_rfl) h _ w
end Va
end Go.Proofs.YtmhpjjjjgakpiaaGreatDoor
namespace Go.Proofs.YtmhpjjjjgakpiaaGreatDoor
open Go.RowKit
set_option linter.unusedSimpArgs false
set_option linter.unusedVariables false
namespace Va
end Va
end Go.Proofs.YtmhpjjjjgakpiaaGreatDoor
namespace Go.Proofs.YtmhpjjjjgakpiaaGreatDoor
open Go.RowKit
set_option linter.unusedSimpArgs false
set_option linter.unusedVariables false
namespace Va
end Va
end Go.Proofs.YtmhpjjjjgakpiaaGreatDoor
namespace Go.Proofs.YtmhpjjjjgakpiaaGreatDoor
open Go.RowKit
set_option linter.unusedSimpArgs false
set_option linter.unusedVariables false
namespace Va
end Va
end Go.Proofs.YtmhpjjjjgakpiaaGreatDoor
namespace Go.Proofs.YtmhpjjjjgakpiaaGreatDoor
open Go.RowKit
set_option linter.unusedSimpArgs false
set_option linter.unusedVariables false
namespace Va
end Va
end Go.Proofs.YtmhpjjjjgakpiaaGreatDoor
namespace Go.Proofs.YtmhpjjjjgakpiaaGreatDoor
open Go.RowKit
namespace Own

section
variable {P:Program} {w:World}

theorem run_append_src (t tx ty:TypeId) (base:Nat) (e:TypeId) (i:TypeInfo) (z:Value) (size bytes:Nat) (ht:P.underlying t = some (.slice e)) (hi:P.info? e = some i) (hz:i.zero = some z)
  (hsize:i.size = size) (hby:i.bytes = bytes) (hzs:z.cells.size = size)
  (v:Value) (n:Nat) (xs:List Value) (hown:w.ownsRow base e size v n xs) (x:Value) (m:Nat) (news:List Value) (hs:Src P size tx x m news w)
  (h63:n + m ≤ maxLen) (hbytes:(n + m) * bytes ≤ 140737488355328) (hbase:base ≤ w.heap.size) :
  ∃ v' w',(Builtin.append_ #[t,tx] ty #[v,x]).run P w = .ok v' w' ∧ w'.ownsRow base e size v' (n + m) (xs ++ news) ∧ w.grownBy w' v.ownBlock ∧ (∀ k,v'.ownBlock = some k → v.ownBlock = some k ∨ w.heap.size ≤ k):=by
 subst hsize
 subst hby
 have hsmall:n + m ≤ 9223372036854775807:=by simp only [maxLen] at h63; omega
 have hl:=hs.newsLen
 have hlen:(xs ++ news).length = (n + m) * i.size:=by rw [List.length_append,hown.1,hl,Nat.add_mul]
 have grown:∀ old row,(w.drew.alloc (.cells ((xs ++ news).toArray ++ Builtin.zeroCells z.cells (grownCap w (n + m) old e - (n + m))) e)).ownsRow base e i.size (.slice (some ⟨w.heap.size,0,none⟩) (n + m) (grownCap w (n + m) old e)) (n + m) (xs ++ news) ∧
   w.grownBy (w.drew.alloc (.cells ((xs ++ news).toArray ++ Builtin.zeroCells z.cells (grownCap w (n + m) old e - (n + m))) e)) row:=by
  intro old row
  have hge:=grownCap_ge w (n + m) old e
  have hcm:=grownCap_le_maxLen w (n + m) old e h63
  refine ⟨⟨hlen,.inr ⟨w.heap.size,_,_,rfl,hbase,heap_alloc_new w.drew _,hge,hcm,?_,?_⟩⟩,⟨rfl,rfl,rfl,by simp,fun k hk _=>Below.heap_alloc w.drew _ k hk⟩⟩
  ·simp only [Array.size_append,List.size_toArray,hlen,size_zeroCells,hzs,← Nat.add_mul]
   congr 1
   omega
  ·simp only [Array.toList_append]
   rw [← hlen]
   exact List.take_left
 rcases hown.2 with ⟨rfl,rfl⟩ | ⟨g,cap,cur,rfl,hbg,hg,hnc,hcm,hcs,htake⟩
 ·have hx:xs = []:=List.eq_nil_of_length_eq_zero (by simpa using hown.1)
  subst hx
  by_cases hm:m = 0
  ·subst hm
   have hn:news = []:=List.eq_nil_of_length_eq_zero (by simpa using hl)
   subst hn
   refine ⟨.slice none 0 0,w,?_,World.ownsRow_nil w base e i.size,⟨rfl,rfl,rfl,Nat.le_refl _,fun _ _ _=>rfl⟩,fun _ h=>Or.inl h⟩
   rcases hs.kind with ⟨e',hk⟩ | hk <;> simp [Builtin.append_,run_underlying ht,run_underlying hk,sizeOf,typeInfo,hi,hs.len,hs.cells]
  ·have hr:=run_append_grow_src (P:=P) w t tx ty e i z ht hi hz none 0 0 [] (run_firstCells_none _ _ _ _ _) x m news hs (by omega) (by omega) (growslice_fits (by omega) hbytes)
   have hgr:=grown 0 (Value.ownBlock (.slice none 0 0))
   exact ⟨_,_,hr,hgr.1,hgr.2,fun k hk=>by simp [Value.ownBlock] at hk; right; omega⟩
 ·by_cases hroom:n + m ≤ cap
  ·have hfit:n * i.size + news.length ≤ cur.size:=by rw [hl,hcs,← Nat.add_mul]; exact Nat.mul_le_mul_right _ hroom
   have hst:=run_storeCells_at (P:=P) g (n * i.size) e news 0 cur w hg (by simpa using hfit) hs.one
   simp only [Nat.add_zero] at hst
   have hr:(Builtin.append_ #[t,tx] ty #[.slice (some ⟨g,0,none⟩) n cap,x]).run P w = .ok (.slice (some ⟨g,0,none⟩) (n + m) cap) (w.setRow g (cur.toList.take (n * i.size) ++ news ++ cur.toList.drop (n * i.size + news.length)).toArray):=by
    rcases hs.kind with ⟨e',hk⟩ | hk <;> simp [Builtin.append_,run_underlying ht,run_underlying hk,sizeOf,typeInfo,hi,hs.len,hroom,hs.cells,Addr.add_lit,hst]
   refine ⟨_,_,hr,⟨hlen,.inr ⟨g,cap,_,rfl,hbg,setRow_heap w g cur _ e _ hg,hroom,hcm,?_,?_⟩⟩,⟨rfl,rfl,rfl,by simp,fun k _ hk=>setRow_other w g k _ (fun e=>hk (by simp [Value.ownBlock,e]))⟩,fun k hk=>Or.inl (by simpa [Value.ownBlock] using hk)⟩
   ·simp only [List.size_toArray,List.length_append,List.length_take,List.length_drop,Array.length_toList]
    omega
   ·rw [htake,← hlen]
    exact List.take_left
  ·have holds:∀ j u,xs[j]? = some u → w.drew.cell? ((⟨g,0,none⟩:Addr).add j) = some u:=hown.cells (g:=g) rfl
   have hr:=run_append_grow_src (P:=P) w t tx ty e i z ht hi hz (some ⟨g,0,none⟩) n cap xs (run_firstCells_some _ _ _ _ _ _ xs hown.1 holds) x m news hs (by omega) (by omega) (growslice_fits (by omega) hbytes)
   have hgr:=grown cap (Value.ownBlock (.slice (some ⟨g,0,none⟩) n cap))
   exact ⟨_,_,hr,hgr.1,hgr.2,fun k hk=>by simp [Value.ownBlock] at hk; right; omega⟩

theorem wpList_append_src {ops:Array Oper} {rest:List Oper} {o:Oper} {a:Act} {Q:Exit → Act → World → Prop} (hgd:o.guard = none) (s x:Operand) (t tx:TypeId)
  (ho:o.op = .call { callee:=.builtin .append,args:=#[s,x],argTypes:=#[t,tx] })
  (base:Nat) (e:TypeId) (i:TypeInfo) (z:Value) (size bytes:Nat) (ht:P.underlying t = some (.slice e)) (hi:P.info? e = some i) (hz:i.zero = some z)
  (hsize:i.size = size) (hby:i.bytes = bytes) (hzs:z.cells.size = size)
  (v:Value) (n:Nat) (xs:List Value) (hv:a.eval s = v) (hown:w.ownsRow base e size v n xs) (u:Value) (m:Nat) (news:List Value) (hx:a.eval x = u) (hs:Src P size tx u m news w)
  (h63:n + m ≤ maxLen) (hbytes:(n + m) * bytes ≤ 140737488355328) (hbase:base ≤ w.heap.size)
  (h:∀ v' w',w'.ownsRow base e size v' (n + m) (xs ++ news) → w.grownBy w' v.ownBlock → wpList P ops Q rest (a.put o.dst v') w'):wpList P ops Q (o :: rest) a w:=by
 refine wpList_plain hgd fun K hK=>?_
 obtain ⟨v',w',hr,h2,h3,_⟩:=run_append_src (P:=P) t tx o.type base e i z size bytes ht hi hz hsize hby hzs v n xs hown u m news hs h63 hbytes hbase
 unfold Oper.wp execOp
 simp only [ho,resolve,invoke,builtin,Sem.run_bind,Sem.run_pure,Result.andThen_ok,List.map_toArray,List.map_cons,List.map_nil,hv,hx,hr]
 exact hK _ _ (h v' w' h2 h3)
end

theorem owns_below {w w':World} {base:Nat} {e:TypeId} {size:Nat} {v:Value} {n:Nat} {xs:List Value} (h:w.ownsRow base e size v n xs) (hb:Below w.heap.size w w'):w'.ownsRow base e size v n xs:=by
 refine ⟨h.1,?_⟩
 rcases h.2 with h2 | ⟨g,cap,cur,hv,hg,hh,r⟩
 ·exact Or.inl h2
 ·have hlt:g < w.heap.size:=by
   by_cases hlt:g < w.heap.size
   ·exact hlt
   ·rw [Array.getElem?_eq_none (by omega)] at hh; cases hh
  exact Or.inr ⟨g,cap,cur,hv,hg,by rw [hb.block g hlt]; exact hh,r⟩
theorem below_grown {B:Nat} {a w w':World} {e:TypeId} {size:Nat} {v:Value} {n:Nat} {xs:List Value} (h:Below B a w) (hown:w.ownsRow B e size v n xs) (hg:w.grownBy w' v.ownBlock) (hB:B ≤ w.heap.size):Below B a w':=by
 refine h.grown hg hB fun k hk=>?_
 rcases hown.2 with ⟨rfl,_⟩ | ⟨g,cap,cur,rfl,hbg,_⟩
 ·simp [Value.ownBlock] at hk
 ·simp [Value.ownBlock] at hk; omega
end Own
end Go.Proofs.YtmhpjjjjgakpiaaGreatDoor
namespace Go.Proofs.YtmhpjjjjgakpiaaGreatDoor
namespace Txt
def b (s:ByteArray) (k:Nat):Nat:=if h:k < s.size then (s[k]'h).toNat else 0
theorem b_eq (s:ByteArray) (k:Nat) (h:k < s.size):((s[k]'h).toNat:Int) = (b s k:Int):=by unfold b; rw [dif_pos h]
theorem b_get (s:ByteArray) (k:Nat) (h:k < s.size):(s.get! k).toNat = b s k:=by
 have e:=get_at s k h
 rw [Nat.add_zero] at e
 unfold b; rw [dif_pos h,e]
theorem b_lt (s:ByteArray) (k:Nat):b s k < 256:=by
 unfold b; split
 ·exact (s[k]).toNat_lt
 ·omega
def on (s:ByteArray) (k lo hi:Nat):Bool:=decide (k < s.size) && decide (lo ≤ b s k) && decide (b s k ≤ hi)
def sz (s:ByteArray) (i:Nat):Nat :=
 let c:=b s i
 if c < 128 then 1
 else if 194 ≤ c ∧ c ≤ 223 ∧ on s (i + 1) 128 191 = true then 2
 else if c = 224 ∧ on s (i + 1) 160 191 = true ∧ on s (i + 2) 128 191 = true then 3
 else if c = 237 ∧ on s (i + 1) 128 159 = true ∧ on s (i + 2) 128 191 = true then 3
 else if 225 ≤ c ∧ c ≤ 239 ∧ c ≠ 237 ∧ on s (i + 1) 128 191 = true ∧ on s (i + 2) 128 191 = true then 3
 else if c = 240 ∧ on s (i + 1) 144 191 = true ∧ on s (i + 2) 128 191 = true ∧ on s (i + 3) 128 191 = true then 4
 else if c = 244 ∧ on s (i + 1) 128 143 = true ∧ on s (i + 2) 128 191 = true ∧ on s (i + 3) 128 191 = true then 4
 else if 241 ≤ c ∧ c ≤ 243 ∧ on s (i + 1) 128 191 = true ∧ on s (i + 2) 128 191 = true ∧ on s (i + 3) 128 191 = true then 4
 else 0
theorem on_iff (s:ByteArray) (k lo hi:Nat):on s k lo hi = true ↔ k < s.size ∧ lo ≤ b s k ∧ b s k ≤ hi:=by
 unfold on; simp [and_assoc]
theorem dec_low (s:ByteArray) (i:Nat) (h:i < s.size) (hb:b s i < 128):Utf8.decode s i = (b s i,1):=by
 have e:=b_get s i h
 simp only [Utf8.decode,Nat.add_zero,e,hb,if_true]
theorem dec_high (s:ByteArray) (i:Nat) (h:i < s.size) (hb:128 ≤ b s i) :
  (sz s i = 0 ∧ Utf8.decode s i = (65533,1)) ∨ (2 ≤ sz s i ∧ i + sz s i ≤ s.size ∧ (Utf8.decode s i).2 = sz s i ∧ 128 ≤ (Utf8.decode s i).1):=by
 have e0:=b_get s i h
 have e1:=fun h'=>b_get s (i + 1) h'
 have e2:=fun h'=>b_get s (i + 2) h'
 have e3:=fun h'=>b_get s (i + 3) h'
 have hb0:=b_lt s i
 have hb1:=b_lt s (i + 1)
 have hb2:=b_lt s (i + 2)
 have hb3:=b_lt s (i + 3)
 have o1:=fun lo hi=>on_iff s (i + 1) lo hi
 have o2:=fun lo hi=>on_iff s (i + 2) lo hi
 have o3:=fun lo hi=>on_iff s (i + 3) lo hi
 unfold sz
 simp only [Utf8.decode,Nat.add_zero,e0,o1,o2,o3,Utf8.runeError,Utf8.valid]
 generalize (s.get! (i + 1)).toNat = a1 at *
 generalize (s.get! (i + 2)).toNat = a2 at *
 generalize (s.get! (i + 3)).toNat = a3 at *
 clear o1 o2 o3 e0
 generalize b s i = c0 at *
 generalize b s (i + 1) = c1 at *
 generalize b s (i + 2) = c2 at *
 generalize b s (i + 3) = c3 at *
 have k0:¬ c0 < 128:=by omega
 simp only [k0,if_false]
 by_cases r1:c0 < 192
 ·left
  have q1:(c0 / 32 == 6) = false:=beq_eq_false_iff_ne.2 (by omega)
  have q2:(c0 / 16 == 14) = false:=beq_eq_false_iff_ne.2 (by omega)
  have q3:(c0 / 8 == 30) = false:=beq_eq_false_iff_ne.2 (by omega)
  simp only [q1,q2,q3,Bool.false_and,Bool.false_eq_true,if_false,and_true]
  rw [if_neg (by omega),if_neg (by omega),if_neg (by omega),if_neg (by omega),if_neg (by omega),if_neg (by omega),if_neg (by omega)]
 by_cases r2:c0 < 224
 ·have q1:(c0 / 32 == 6) = true:=beq_iff_eq.2 (by omega)
  have q2:(c0 / 16 == 14) = false:=beq_eq_false_iff_ne.2 (by omega)
  have q3:(c0 / 8 == 30) = false:=beq_eq_false_iff_ne.2 (by omega)
  simp only [q1,q2,q3,Bool.false_and,Bool.false_eq_true,if_false,Bool.true_and]
  rw [if_neg (by omega:¬ (c0 = 224 ∧ _)),if_neg (by omega:¬ (c0 = 237 ∧ _)),if_neg (by omega:¬ (225 ≤ c0 ∧ _)),if_neg (by omega:¬ (c0 = 240 ∧ _)),if_neg (by omega:¬ (c0 = 244 ∧ _)),if_neg (by omega:¬ (241 ≤ c0 ∧ _))]
  by_cases h1:i + 1 < s.size
  ·obtain rfl:=e1 h1
   simp only [h1,decide_true,Bool.true_and,true_and,beq_iff_eq]
   repeat' split
   all_goals first | omega | (left; constructor <;> first | rfl | omega) | (right; refine ⟨?_,?_,?_,?_⟩ <;> first | rfl | omega)
  ·left
   simp [h1]
 by_cases r3:c0 < 240
 ·have q1:(c0 / 32 == 6) = false:=beq_eq_false_iff_ne.2 (by omega)
  have q2:(c0 / 16 == 14) = true:=beq_iff_eq.2 (by omega)
  have q3:(c0 / 8 == 30) = false:=beq_eq_false_iff_ne.2 (by omega)
  simp only [q1,q2,q3,Bool.false_and,Bool.false_eq_true,if_false,Bool.true_and]
  rw [if_neg (by omega:¬ (194 ≤ c0 ∧ _)),if_neg (by omega:¬ (c0 = 240 ∧ _)),if_neg (by omega:¬ (c0 = 244 ∧ _)),if_neg (by omega:¬ (241 ≤ c0 ∧ _))]
  by_cases h2:i + 2 < s.size
  ·have h1:i + 1 < s.size:=by omega
   obtain rfl:=e1 h1
   obtain rfl:=e2 h2
   simp only [h1,h2,decide_true,Bool.true_and,true_and,Bool.and_eq_true,beq_iff_eq,decide_eq_true_eq,Bool.or_eq_true]
   by_cases k1:a1 / 64 = 2
   ·by_cases k2:a2 / 64 = 2
    ·simp only [k1,k2,true_and,if_true]
     have g1:128 ≤ a1 ∧ a1 ≤ 191:=by omega
     have g2:128 ≤ a2 ∧ a2 ≤ 191:=by omega
     clear e1 e2 e3 k1 k2 q1 q2 q3 hb1 hb2 hb3 hb hb0
     repeat' split
     all_goals first | omega | (left; constructor <;> first | rfl | omega) | (right; refine ⟨?_,?_,?_,?_⟩ <;> first | rfl | omega)
    ·left
     rw [if_neg (by omega),if_neg (by omega),if_neg (by omega),if_neg (by omega)]
     exact ⟨rfl,rfl⟩
   ·left
    rw [if_neg (by omega),if_neg (by omega),if_neg (by omega),if_neg (by omega)]
    exact ⟨rfl,rfl⟩
  ·left
   simp [h2]
 by_cases r4:c0 < 248
 ·have q1:(c0 / 32 == 6) = false:=beq_eq_false_iff_ne.2 (by omega)
  have q2:(c0 / 16 == 14) = false:=beq_eq_false_iff_ne.2 (by omega)
  have q3:(c0 / 8 == 30) = true:=beq_iff_eq.2 (by omega)
  simp only [q1,q2,q3,Bool.false_and,Bool.false_eq_true,if_false,Bool.true_and]
  rw [if_neg (by omega:¬ (194 ≤ c0 ∧ _)),if_neg (by omega:¬ (c0 = 224 ∧ _)),if_neg (by omega:¬ (c0 = 237 ∧ _)),if_neg (by omega:¬ (225 ≤ c0 ∧ _))]
  by_cases h3:i + 3 < s.size
  ·have h1:i + 1 < s.size:=by omega
   have h2:i + 2 < s.size:=by omega
   obtain rfl:=e1 h1
   obtain rfl:=e2 h2
   obtain rfl:=e3 h3
   simp only [h1,h2,h3,decide_true,Bool.true_and,true_and,Bool.and_eq_true,beq_iff_eq,decide_eq_true_eq,Bool.or_eq_true]
   by_cases k:(a1 / 64 = 2 ∧ a2 / 64 = 2) ∧ a3 / 64 = 2
   ·have g1:128 ≤ a1 ∧ a1 ≤ 191:=by omega
    have g2:128 ≤ a2 ∧ a2 ≤ 191:=by omega
    have g3:128 ≤ a3 ∧ a3 ≤ 191:=by omega
    rw [if_pos k]
    clear e1 e2 e3 k q1 q2 q3 hb1 hb2 hb3 hb hb0
    repeat' split
    all_goals first | omega | (left; constructor <;> first | rfl | omega) | (right; refine ⟨?_,?_,?_,?_⟩ <;> first | rfl | omega)
   ·left
    rw [if_neg k,if_neg (by omega),if_neg (by omega),if_neg (by omega)]
    exact ⟨rfl,rfl⟩
  ·left
   simp [h3]
 ·left
  have q1:(c0 / 32 == 6) = false:=beq_eq_false_iff_ne.2 (by omega)
  have q2:(c0 / 16 == 14) = false:=beq_eq_false_iff_ne.2 (by omega)
  have q3:(c0 / 8 == 30) = false:=beq_eq_false_iff_ne.2 (by omega)
  simp only [q1,q2,q3,Bool.false_and,Bool.false_eq_true,if_false,and_true]
  rw [if_neg (by omega),if_neg (by omega),if_neg (by omega),if_neg (by omega),if_neg (by omega),if_neg (by omega),if_neg (by omega)]
end Txt
end Go.Proofs.YtmhpjjjjgakpiaaGreatDoor

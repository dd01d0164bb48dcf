/-
Names: the names that packages have, rising. The reference's names: put where they belong, each once, rising.
-/
import Derived.Test.YtelofmeapplfpaaGreatDoorDIxAt
import Derived.Test.YtelofmeapplfpaaGreatDoorShelfKeys
import Derived.Test.YtelofmeapplfpaaGreatDoorDTextTexts
import Derived.Maps.OwnSet
import Derived.Sort.KeysCollected
import Derived.CallsIn
import Derived.Test.YtelofmeapplfpaaGreatDoorDIxBack
namespace Go.Proofs.YtelofmeapplfpaaGreatDoor
open Go.RowKit
set_option linter.unusedSimpArgs false
set_option linter.unusedVariables false
namespace Ix
open Ver (Bs S S_li S_size)
open Rl (At Pv)
open Rc (Pk nPk Pks nmsOf)
open Go.Shelf Go.Sort
def rising (ns:List Bs):List Bs:=ns.mergeSort leB
theorem keys_any (mb:Option Nat) (W:World):CallsIn Fence.wide 5 Tryz.prog 50 #[.map mb] W fun e w'=>e = .returned (.func (.func 86) #[] #[.pointer (some ⟨W.heap.size,0,none⟩)]) ∧ w' = W.alloc (.cells #[.map mb] 74) :=
 AnyZ.keys_in Tryz.keysPl Fence.wide 5 trivial rfl mb W
theorem sortsS (m:Nat):AnyZ.SortsIn Tryz.prog Tryz.sortedStr_ren Fence.wide m :=
 ⟨fun blk off cap ss W hH hblk hsz=>callsIn_wide.2 (AnyM.slices_Sort_string Tryz.sortStrs blk off cap ss W hH hblk hsz),
  fun p cap W=>callsIn_wide.2 (AnyM.slices_Sort_string_none Tryz.sortStrs p cap W)⟩
theorem collected {D:DataW Value} {ns:List Bs} (hn:ns.Nodup) (hm:∀ x,x ∈ ns ↔ Maps.has D (.string x) = true):Collected D (fun _=>false) ns :=
 ⟨hn,fun x=>by rw [hm x]; simp⟩
set_option maxHeartbeats 1000000 in
theorem sorted_any (b n:Nat) (D:DataW Value) (w:World) (ns:List Bs) (hown:w.ownsMap Tryz.prog 9 RV b n D) (hn:n ≤ 60000) (hnd:ns.Nodup) (hm:∀ x,x ∈ ns ↔ Maps.has D (.string x) = true) :
  Calls Tryz.prog 49 #[.func (.func 86) #[] #[.pointer (some ⟨w.heap.size,0,none⟩)]] (w.alloc (.cells #[.map (some b)] 74)) fun e w'=>∃ v,e = .returned v ∧ w'.ownsRow w.heap.size 9 1 v ns.length (((rising ns).map S).map Value.string) ∧ Below w.heap.size w w':=by
 have hbl:=hown.lt
 have hsz:Maps.size D ≤ n:=hown.size_le
 have hseq:SeqGives Fence.wide 2 Tryz.prog 86 #[.pointer (some ⟨w.heap.size,0,none⟩)] encStr (fun ss=>ss.Perm (strKeys D)) (Maps.size D) (w.alloc (.cells #[.map (some b)] 74)) :=
  AnyZ.keys_gives (ρ:=Tryz.keysPl_ren) { Tryz.keysPl with } Fence.wide _ trivial rfl (by omega) w.heap.size b n D _ (by simp) (by simp) (by
   obtain ⟨es,clock,hb,Ft,hs,hD⟩:=hown
   exact ⟨es,clock,(Below.heap_alloc _ _ b hbl).trans hb,Ft,hs,hD⟩)
 have h:=AnyZ.sorted_in Tryz.sortedStr Fence.wide 5 trivial trivial trivial trivial rfl (by omega) (sortsS _) (enters_of Tryz.func85 (by kernel_rfl) rfl) 86 #[.pointer (some ⟨w.heap.size,0,none⟩)] trivial (enters_of Tryz.func86 (by kernel_rfl) rfl) _ _ (by unfold maxLen; omega) (by omega) _ hseq
 refine (callsIn_wide.1 h).mono ?_
 rintro e w' ⟨v,ss,rfl,hS,hrow,_,hb⟩
 have hp:=(collected hnd hm).perm hown law Tryz.underlying9 (fun _=>rfl)
 have e1:ss.mergeSort leB = rising ns:=mergeSort_of_perm (hS.trans hp.symm)
 have hb0:Below w.heap.size w (w.alloc (.cells #[.map (some b)] 74)):=(Below.refl _ _).alloc (Nat.le_refl _) _
 refine ⟨v,rfl,?_,hb0.trans (hb.mono hb0.size)⟩
 have hl:ss.length = ns.length:=(hS.trans hp.symm).length_eq
 have e2:((rising ns).map S).map Value.string = (ss.mergeSort leB).map encStr:=by rw [← e1,List.map_map]; rfl
 rw [e2,← hl]
 exact Rl.own_mono hrow hb0.size
set_option maxRecDepth 100000 in
set_option maxHeartbeats 4000000 in
theorem names_any (pb:Nat) (xs:List Pk) (w:World) (ns:List Bs) (h:Idx w pb xs) (hnd:ns.Nodup) (hm:∀ x,x ∈ ns ↔ gK xs xs.length false x ≠ []) (hl:ns.length ≤ 60000) :
  Calls Tryz.prog 21 #[.pointer (some ⟨pb,0,none⟩)] w fun e w'=>∃ v,e = .returned v ∧ Txt.Texts w' v ((rising ns).map S) ∧ Below w.heap.size w w':=by
 obtain ⟨pv,bn,bs,hi,hp,hr,_⟩:=h
 obtain ⟨n0,hd,hn0,⟨D,ho,_,hks⟩,_⟩:=hr
 obtain ⟨pa,pc,rfl⟩:=hp.shape
 have q0:=hi.at (i:=1) rfl
 have ck:=callsIn_wide.1 (keys_any (some bn) w)
 have cs:=sorted_any bn n0 D w ns ho hn0 hnd fun x=>by rw [hks x,hm x]; simp
 have hlen:(rising ns).length = ns.length:=by unfold rising; exact List.length_mergeSort _
 have CS:=Lib.hid cs
 have HLE:=Lib.hid hlen
 have HL:=Lib.hid hl
 clear hi hp ho hks hm hnd cs hlen hl
 go_enter Tryz.func21,Tryz.ntmps21
 go_wp2_with fail
 refine ck.mono ?_
 rintro e w1 ⟨rfl,rfl⟩
 clear ck
 go_wp2_with fail
 refine CS.out.mono ?_
 rintro e w2 ⟨v,rfl,hrow,k2⟩
 have hT:Txt.Texts w2 v ((rising ns).map S):=Txt.Texts.owned (by rw [List.length_map,HLE.out]; exact hrow) (by rw [List.length_map,HLE.out]; have:=HL.out; omega)
 have HT:=Lib.hid hT
 clear hT hrow q0
 go_wp2_with fail
 go_ret
 exact ⟨_,rfl,HT.out,k2⟩
end Ix
end Go.Proofs.YtelofmeapplfpaaGreatDoor
namespace Go.Proofs.YtelofmeapplfpaaGreatDoor
open Go.RowKit
set_option linter.unusedSimpArgs false
set_option linter.unusedVariables false
namespace Ix
open Ver (Bs Tri orr sgn)
open Rc (Pk nPk)
open Go.Sort
def below (nm x:Bs):Bool:=decide (Lib.compareBytes x nm < 0)
def slotN (nm:Bs) (l:List Bs):Nat:=(l.takeWhile (below nm)).length
def insN (nm:Bs) (l:List Bs):List Bs:=if l[slotN nm l]? = some nm then l else l.take (slotN nm l) ++ [nm] ++ l.drop (slotN nm l)
def insNs:List Bs → List Bs → List Bs
 | [],out=>out
 | p :: r,out=>insNs r (insN p out)
theorem insNs_snoc:∀ (l:List Bs) (p:Bs) (out:List Bs),insNs (l ++ [p]) out = insN p (insNs l out)
 | [],p,out=>rfl
 | q :: r,p,out=>insNs_snoc r p (insN q out)
theorem takeN (nm:Bs) (l:List Bs):l.take (slotN nm l) = l.takeWhile (below nm):=by
 unfold slotN
 exact (List.prefix_iff_eq_take.1 (List.takeWhile_prefix _)).symm
theorem dropN (nm:Bs) (l:List Bs):l.drop (slotN nm l) = l.dropWhile (below nm):=by
 have h:=List.takeWhile_append_dropWhile (p:=below nm) (l:=l)
 have e:(l.takeWhile (below nm) ++ l.dropWhile (below nm)).drop (slotN nm l) = l.dropWhile (below nm):=by
  unfold slotN
  exact List.drop_left
 rwa [h] at e
theorem insN_mem (nm:Bs) (l:List Bs) (x:Bs):x ∈ insN nm l ↔ x = nm ∨ x ∈ l:=by
 unfold insN
 split
 ·rename_i h
  constructor
  ·exact .inr
  ·rintro (rfl | h1)
   ·exact List.mem_of_getElem? h
   ·exact h1
 ·have e:x ∈ l ↔ x ∈ l.take (slotN nm l) ∨ x ∈ l.drop (slotN nm l):=by
   rw [← List.mem_append,List.take_append_drop]
  rw [List.mem_append,List.mem_append,List.mem_singleton,e]
  constructor
  ·rintro ((h | h) | h)
   ·exact .inr (.inl h)
   ·exact .inl h
   ·exact .inr (.inr h)
  ·rintro (h | h | h)
   ·exact .inl (.inr h)
   ·exact .inl (.inl h)
   ·exact .inr h
def Up (l:List Bs):Prop:=l.Pairwise fun a b=>Lib.compareBytes a b < 0
theorem up_ins {nm:Bs} {l:List Bs} (h:Up l):Up (insN nm l):=by
 unfold insN
 split
 ·exact h
 ·rename_i hne
  unfold Up at h ⊢
  have hsplit:=List.takeWhile_append_dropWhile (p:=below nm) (l:=l)
  have h0:=h
  rw [← hsplit,List.pairwise_append] at h
  obtain ⟨h1,h2,h3⟩:=h
  rw [takeN,dropN]
  have ht:∀ x ∈ l.takeWhile (below nm),Lib.compareBytes x nm < 0:=fun x hx=>by
   have:=List.all_eq_true.1 (List.all_takeWhile (l:=l) (p:=below nm)) x hx
   unfold below at this
   simpa using this
  have hd:∀ x ∈ l.dropWhile (below nm),Lib.compareBytes nm x < 0:=by
   cases hdw:l.dropWhile (below nm) with
   | nil=>intro x hx; cases hx
   | cons y r =>
    have hy:¬ below nm y = true:=by
     have:=List.head_dropWhile_not (p:=below nm) (l:=l) (by rw [hdw]; simp)
     simpa [hdw] using this
    have hyn:y ≠ nm:=fun e=>by
     apply hne
     have:(l.drop (slotN nm l))[0]? = some y:=by rw [dropN,hdw]; rfl
     rw [List.getElem?_drop,Nat.add_zero] at this
     rw [this,e]
    have hy2:Lib.compareBytes nm y < 0:=by
     unfold below at hy
     rw [decide_eq_true_eq] at hy
     have t:=cb_turn nm y
     have z:Lib.compareBytes nm y ≠ 0:=fun e=>hyn (cb_zero e).symm
     omega
    intro x hx
    rcases List.mem_cons.1 hx with rfl | hx
    ·exact hy2
    ·rw [hdw,List.pairwise_cons] at h2
     have hyx:=h2.1 x hx
     have t:=cb_tri nm y x
     have a1:=one_cb nm y
     have a2:=one_cb y x
     unfold Tri One at *
     omega
  rw [List.append_assoc,List.pairwise_append]
  refine ⟨h1,?_,fun x hx y hy=>?_⟩
  ·rw [List.singleton_append,List.pairwise_cons]
   exact ⟨hd,h2⟩
  ·rw [List.singleton_append,List.mem_cons] at hy
   rcases hy with rfl | hy
   ·exact ht x hx
   ·exact h3 x hx y hy
theorem insNs_up:∀ (l out:List Bs),Up out → Up (insNs l out)
 | [],_,h=>h
 | p :: r,out,h=>insNs_up r _ (up_ins h)
theorem insNs_mem:∀ (l out:List Bs) (x:Bs),x ∈ insNs l out ↔ x ∈ l ∨ x ∈ out
 | [],out,x=>by unfold insNs; simp
 | p :: r,out,x=>by
  unfold insNs
  rw [insNs_mem r,insN_mem,List.mem_cons]
  constructor
  ·rintro (h | h | h)
   ·exact .inl (.inr h)
   ·exact .inl (.inl h)
   ·exact .inr h
  ·rintro ((h | h) | h)
   ·exact .inr (.inl h)
   ·exact .inl h
   ·exact .inr (.inr h)
theorem up_nodup {l:List Bs} (h:Up l):l.Nodup:=h.imp fun {a b} hab e=>by
 subst e
 rw [cb_self] at hab
 omega
theorem lt_cb:∀ a b:Bs,a < b ↔ Lib.compareBytes a b < 0
 | [],[]=>by rw [cb_nn]; simp
 | [],y :: b=>by rw [cb_nc]; simp
 | x :: a,[]=>by rw [cb_cn]; simp
 | x :: a,y :: b=>by
  rw [cb_cc,List.cons_lt_cons_iff,lt_cb a b]
  rcases Nat.lt_trichotomy x.toNat y.toNat with h | h | h
  ·have e:sgn (x.toNat:Int) (y.toNat:Int) = -1:=by unfold sgn; rw [if_pos (by omega)]
   have h1:x < y:=h
   rw [e]
   simp [h1,orr]
  ·have e:sgn (x.toNat:Int) (y.toNat:Int) = 0:=by unfold sgn; rw [if_neg (by omega),if_neg (by omega)]
   have h1:x = y:=UInt8.toNat_inj.1 h
   subst h1
   rw [e]
   simp [orr]
  ·have e:sgn (x.toNat:Int) (y.toNat:Int) = 1:=by unfold sgn; rw [if_neg (by omega),if_pos (by omega)]
   have h1:¬ x < y:=fun hh=>by have:x.toNat < y.toNat:=hh; omega
   have h2:¬ x = y:=fun hh=>by rw [hh] at h; omega
   rw [e]
   simp [h1,h2,orr]
theorem le_cb (a b:Bs):a ≤ b ↔ Lib.compareBytes a b ≤ 0:=by
 rw [← List.not_lt,lt_cb]
 have:=cb_turn a b
 omega
theorem names_one {ns l:List Bs} (hn:ns.Nodup) (hm:∀ x,x ∈ ns ↔ x ∈ l):insNs l [] = rising ns:=by
 have hu:Up (insNs l []):=insNs_up l [] List.Pairwise.nil
 have hp:(insNs l []).Perm (rising ns):=by
  refine List.Perm.trans ?_ (List.mergeSort_perm ns leB).symm
  refine (List.perm_ext_iff_of_nodup (up_nodup hu) hn).2 fun x=>?_
  rw [insNs_mem,hm x]
  simp
 have tr:∀ a b c:Bs,leB a b = true → leB b c = true → leB a c = true:=fun a b c h1 h2=>by simp only [leB,decide_eq_true_eq] at *; exact List.le_trans h1 h2
 have tot:∀ a b:Bs,(leB a b || leB b a) = true:=fun a b=>by simp only [leB,Bool.or_eq_true,decide_eq_true_eq]; exact List.le_total a b
 refine List.Perm.eq_of_pairwise (le:=fun a b=>leB a b = true) (fun a b _ _ h1 h2=>?_) (hu.imp fun {a b} hab=>?_) (List.pairwise_mergeSort tr tot ns) hp
 ·simp only [leB,decide_eq_true_eq] at h1 h2
  exact List.le_antisymm h1 h2
 ·simp only [leB,decide_eq_true_eq]
  rw [le_cb]
  omega
end Ix
end Go.Proofs.YtelofmeapplfpaaGreatDoor

/-
Find, Same of entries, and the reference's. The mathematics of a universe: what there is to choose from, what can be reached.
-/
import Derived.Test.YtmhpjjjjgakpiaaGreatDoorDStaConf
import Derived.Test.YtmhpjjjjgakpiaaGreatDoorDRecSame
import Derived.Deep.RegionHeld3
import Derived.Deep.MidRow
import Derived.Test.YtmhpjjjjgakpiaaGreatDoorDTextTexts
import Derived.Test.YtmhpjjjjgakpiaaGreatDoorDIxIns
import Derived.Test.YtmhpjjjjgakpiaaGreatDoorDStaMath
namespace Go.Proofs.YtmhpjjjjgakpiaaGreatDoor
open Go.RowKit
set_option linter.unusedSimpArgs false
set_option linter.unusedVariables false
namespace Sa
open Ver (Bs S)
open Rc (En nEn Ens en_read)
def fnd (s:List En) (nm:Bs):Option Nat:=(List.range s.length).find? fun j=>decide ((pkA s j).nm = nm)
theorem find_range {f:Nat → Bool}:∀ (n k:Nat),k < n → f k = true → (∀ j,j < k → f j = false) → (List.range n).find? f = some k:=by
 intro n k hk hf hno
 rw [List.find?_eq_some_iff_getElem]
 refine ⟨hf,k,by rw [List.length_range]; exact hk,by simp,fun j hj=>?_⟩
 rw [List.getElem_range,hno j hj]; rfl
theorem fnd_some {s:List En} {nm:Bs} {k:Nat} (hk:k < s.length) (h:(pkA s k).nm = nm) (hno:∀ j,j < k → (pkA s j).nm ≠ nm):fnd s nm = some k :=
 find_range _ k hk (decide_eq_true h) fun j hj=>decide_eq_false (hno j hj)
theorem fnd_none {s:List En} {nm:Bs} (hno:∀ j,j < s.length → (pkA s j).nm ≠ nm):fnd s nm = none:=by
 unfold fnd
 rw [List.find?_eq_none]
 intro j hj
 rw [decide_eq_true_eq]
 exact hno j (List.mem_range.1 hj)
theorem fnd_lt {s:List En} {nm:Bs} {k:Nat} (h:fnd s nm = some k):k < s.length:=List.mem_range.1 (List.mem_of_find?_eq_some h)
set_option maxRecDepth 100000 in
set_option maxHeartbeats 8000000 in
theorem find_any (v:Value) (s:List En) (nm:Bs) (w:World) (h:Ens w v s) :
  Calls Tryz.prog 64 #[v,.string (S nm)] w fun e w'=>e = .returned (match fnd s nm with | some k=>.tuple #[.int .i64 (k:Int),.bool true] | none=>.tuple #[.int .i64 0,.bool false]) ∧ Below w.heap.size w w':=by
 obtain ⟨sa,cap,rfl⟩:=h.shape
 have hn0:=h.1
 obtain ⟨n,hn⟩:∃ n,s.length = n:=⟨_,rfl⟩
 have HN:=Lib.hid hn
 have H:=Lib.hid (show Ens w (.slice sa n cap) s by rw [← hn]; exact h)
 rw [hn] at hn0
 rw [hn]
 obtain ⟨F,hF⟩:∃ F,fnd s nm = F:=⟨_,rfl⟩
 have HF:=Lib.hid hF
 rw [hF]
 clear hn h hF
 go_enter Tryz.func64,Tryz.ntmps64
 go_wp2_with fail
 go_loopg [10] n (fun gf sk wx=>∃ k:Nat,sk = .int .i64 k ∧ Hid (Below w.heap.size w wx) ∧ Hid (∀ j,j < k → (pkA s j).nm ≠ nm) ∧ k ≤ n ∧ n ≤ k + gf)
 case atStart=>exact ⟨0,rfl,Below.refl _ _,Lib.hid (fun j hj=>absurd hj (by omega)),by omega,by omega⟩
 case round =>
  obtain ⟨k,rfl,B,HE,hkn,hfu⟩:=hrel
  by_cases hlt:k < n
  ·obtain ⟨g',rfl⟩:∃ g',gk = g' + 1:=⟨gk - 1,by omega⟩
   have hlt':(k:Int) < (n:Int):=by omega
   have hk0:(0:Int) ≤ k:=by omega
   have hkl:k < s.length:=by rw [HN.out]; exact hlt
   obtain ⟨_,a',cap',e1,_,hcells⟩:=H.out.below B.out
   rw [HN.out] at e1
   simp only [Value.slice.injEq,true_and] at e1
   obtain ⟨rfl,rfl⟩:=e1
   obtain ⟨kb,off,rfl,hcl2⟩:=hcells (by omega)
   obtain ⟨a1,n1,c1,a2,n2,c2,a3,n3,c3,a4,n4,c4,a5,n5,c5,a6,n6,c6,⟨x0,x1,x2,x3,x4,x5,x6,x7,x8,x9,x10⟩,hh⟩:=en_read (hcl2 k hkl)
   rw [Nat.mul_comm 11 k] at x0 x1 x2 x3 x4 x5 x6 x7 x8 x9 x10
   have hpk:pkA s k = (s.getD k nEn).pk:=rfl
   obtain ⟨x,hx⟩:∃ x,s.getD k nEn = x:=⟨_,rfl⟩
   rw [hx] at x0 x1 x8 x9 x10 hpk
   have HX:=Lib.hid hpk
   have HKL:=Lib.hid hkl
   have hq:((S x.pk.nm).toList == (S nm).toList) = decide (x.pk.nm = nm):=Rl.S_beq _ _
   have hb2:=(Below.refl wr.heap.size wr).alloc (Nat.le_refl _) (.cells #[.string (S x.pk.nm),.string (S x.pk.vs),.slice a1 n1 c1,.slice a2 n2 c2,.slice a3 n3 c3,.slice a4 n4 c4,.slice a5 n5 c5,.slice a6 n6 c6,.bool x.pk.ess,.bool x.cfg,.bool x.hld] 52)
   have i2:=Blk.Is.new wr 52 #[.string (S x.pk.nm),.string (S x.pk.vs),.slice a1 n1 c1,.slice a2 n2 c2,.slice a3 n3 c3,.slice a4 n4 c4,.slice a5 n5 c5,.slice a6 n6 c6,.bool x.pk.ess,.bool x.cfg,.bool x.hld]
   obtain ⟨V,hV⟩:∃ V,wr.alloc (.cells #[.string (S x.pk.nm),.string (S x.pk.vs),.slice a1 n1 c1,.slice a2 n2 c2,.slice a3 n3 c3,.slice a4 n4 c4,.slice a5 n5 c5,.slice a6 n6 c6,.bool x.pk.ess,.bool x.cfg,.bool x.hld] 52) = V:=⟨_,rfl⟩
   rw [hV] at hb2 i2
   have B2:=Lib.hid (B.out.trans (hb2.mono B.out.size))
   have z0:=i2.at (i:=0) rfl
   have hu:=hV
   clear hcells hcl2 hkl hx hpk hb2 i2 hV hh B
   by_cases he:x.pk.nm = nm
   ·rw [decide_eq_true he] at hq
    have hF:F = some k:=by rw [← HF.out]; exact fnd_some HKL.out (by rw [HX.out]; exact he) HE.out
    subst hF
    clear he HE HX HF
    go_wp2_with fail
    go_ret2
    exact ⟨rfl,B2.out⟩
   ·rw [decide_eq_false he] at hq
    have HE2:Hid (∀ j,j < k + 1 → (pkA s j).nm ≠ nm):=Lib.hid fun j hj=>by
     by_cases e:j = k
     ·rw [e,HX.out]; exact he
     ·exact HE.out j (by omega)
    clear he HE HX
    go_wp2_with fail
    go_roundg g'
    case measure=>omega
    case rel=>exact ⟨k + 1,by go_num,B2,HE2,by omega,by omega⟩
  ·obtain rfl:n = k:=by omega
   have hge:¬ (n:Int) < (n:Int):=by omega
   have hF:F = none:=by rw [← HF.out]; exact fnd_none fun j hj=>HE.out j (by rw [← HN.out]; exact hj)
   subst hF
   clear HE HF
   go_wp2_with fail
   go_ret2
   exact ⟨rfl,B.out⟩
end Sa
end Go.Proofs.YtmhpjjjjgakpiaaGreatDoor
namespace Go.Proofs.YtmhpjjjjgakpiaaGreatDoor
open Go.RowKit
set_option linter.unusedSimpArgs false
set_option linter.unusedVariables false
namespace Un
open Ver (Bs sameV cmpV orr)
open Rl (At isV may)
open Rc (Pk nPk En nEn mayAll mayEn twice again mayK eachK orI nmsOf falls geB)
open Ix (sat Sorts cmpP pl MayL mayAll_of gK ff Up rising)
open Sa (fnd pkA)
/-! ### what there is -/
def thr (s:List En) (p:Pk):Bool:=match fnd s p.nm with
 | some k=>sameV (pkA s k).vs p.vs
 | none=>false
def joinL (r:List Pk) (s:List En):List Pk:=s.map En.pk ++ r.filter fun p=>!thr s p
def allE (r:List Pk) (s:List En):Int:=if mayAll r ≠ 0 then mayAll r else if mayEn s ≠ 0 then mayEn s else mayAll (joinL r s)
structure MayS (s:List En):Prop where
 len:s.length ≤ 10
 each:eachK (s.map En.pk) = 0
 rise:falls s = false
theorem mayEn_of {s:List En} (h:mayEn s = 0):MayS s:=by
 unfold mayEn at h
 split at h
 ·cases h
 ·rename_i h1
  split at h
  ·rename_i h2; exact absurd h h2
  ·rename_i h2
   split at h
   ·cases h
   ·rename_i h3
    exact ⟨by omega,by simpa using h2,by simpa using h3⟩
/-! ### what can be reached -/
def asks (p:Pk):List At:=(p.pre ++ (p.dep ++ p.rcm)).flatten
inductive Rch (xs:List Pk) (sd:List Bs):Bs → Prop
 | seed {n:Bs}:n ∈ sd → (∃ p ∈ xs,p.nm = n) → Rch xs sd n
 | step {p q:Pk} {a:At}:Rch xs sd p.nm → p ∈ xs → a ∈ asks p → q ∈ xs → sat q a = true → Rch xs sd q.nm
def Shut (xs:List Pk) (W:List Bs):Prop:=∀ p ∈ xs,p.nm ∈ W → ∀ a ∈ asks p,∀ q ∈ xs,sat q a = true → q.nm ∈ W
def Reaches (xs:List Pk) (sd W:List Bs):Prop:=∀ n,n ∈ W ↔ Rch xs sd n
theorem Rch.has {xs:List Pk} {sd:List Bs} {n:Bs} (h:Rch xs sd n):∃ p ∈ xs,p.nm = n:=by
 cases h with
 | seed _ h=>exact h
 | step _ _ _ hq _=>exact ⟨_,hq,rfl⟩
theorem reaches_of {xs:List Pk} {sd W:List Bs} (h1:∀ n ∈ W,Rch xs sd n) (h2:∀ n ∈ sd,(∃ p ∈ xs,p.nm = n) → n ∈ W) (h3:Shut xs W):Reaches xs sd W:=fun n=>by
 refine ⟨h1 n,fun h=>?_⟩
 induction h with
 | seed hn hp=>exact h2 _ hn hp
 | step _ hp ha hq hs ih=>exact h3 _ hp ih _ ha _ hq hs
theorem Reaches.shut {xs:List Pk} {sd W:List Bs} (h:Reaches xs sd W):Shut xs W:=fun p hp hn a ha q hq hs=>(h _).2 (.step ((h _).1 hn) hp ha hq hs)
theorem Reaches.seed {xs:List Pk} {sd W:List Bs} (h:Reaches xs sd W) {n:Bs} (hn:n ∈ sd) (hp:∃ p ∈ xs,p.nm = n):n ∈ W:=(h _).2 (.seed hn hp)
theorem Rch.mono {xs:List Pk} {sd sd':List Bs} (hs:∀ n ∈ sd,n ∈ sd') {n:Bs} (h:Rch xs sd n):Rch xs sd' n:=by
 induction h with
 | seed hn hp=>exact .seed (hs _ hn) hp
 | step _ hp ha hq hs ih=>exact .step ih hp ha hq hs
def inW (W:List Bs) (xs:List Pk):List Pk:=xs.filter fun p=>decide (p.nm ∈ W)
theorem inW_congr {W W':List Bs} {xs:List Pk} (h:∀ n,(∃ p ∈ xs,p.nm = n) → (n ∈ W ↔ n ∈ W')):inW W xs = inW W' xs:=by
 unfold inW
 exact List.filter_congr fun p hp=>decide_eq_decide.2 (h _ ⟨p,hp,rfl⟩)
/-! ### packages of some names -/
theorem places_map {α:Type} (z:α) (f:α → Bool):∀ xs:List α,((List.range xs.length).filter fun i=>f (xs.getD i z)).map (fun i=>xs.getD i z) = xs.filter f:=fun xs=>by
 have e:(List.range xs.length).map (fun i=>xs.getD i z) = xs:=by
  refine List.ext_getElem? fun i=>?_
  rw [List.getElem?_map]
  by_cases hi:i < xs.length
  ·rw [List.getElem?_range hi,Option.map_some,List.getD_eq_getElem?_getD,List.getElem?_eq_getElem hi]; rfl
  ·rw [List.getElem?_eq_none (by rw [List.length_range]; omega),List.getElem?_eq_none (by omega)]; rfl
 conv=>rhs; rw [← e]
 rw [List.filter_map]; rfl
theorem gK_map (xs:List Pk) (nm:Bs):(gK xs xs.length false nm).map (fun i=>xs.getD i nPk) = xs.filter fun p=>decide (p.nm = nm):=by
 unfold gK pl ff
 exact places_map nPk (fun p=>decide (p.nm = nm)) xs
theorem mt_map (xs:List Pk) (a:At):(Ix.mt xs a).map (fun i=>xs.getD i nPk) = xs.filter fun p=>sat p a:=by
 unfold Ix.mt pl
 exact places_map nPk (fun p=>sat p a) xs
def ofNm (xs:List Pk) (nm:Bs):List Pk:=xs.filter fun p=>decide (p.nm = nm)
def ofNms (xs:List Pk) (ns:List Bs):List Pk:=ns.flatMap (ofNm xs)
theorem sorts_nm {l xs:List Pk} (h:Sorts l xs):xs.Pairwise fun p q=>¬ q.nm < p.nm:=by
 refine (Ix.Sorts.pairwise h).imp fun {p q} hc hlt=>hc ?_
 rw [Ix.lt_cb] at hlt
 unfold cmpP orr
 rw [if_pos (by omega)]
 exact hlt
theorem two_parts {f g:Pk → Bool}:∀ {xs:List Pk},xs.Pairwise (fun p q=>¬ (g p = true ∧ f q = true)) → (∀ p ∈ xs,¬ (f p = true ∧ g p = true)) → xs.filter f ++ xs.filter g = xs.filter fun p=>f p || g p
 | [],_,_=>rfl
 | x :: r,h,hd=>by
  obtain ⟨h1,h2⟩:=List.pairwise_cons.1 h
  have ih:=two_parts h2 fun p hp=>hd p (List.mem_cons_of_mem _ hp)
  cases hf:f x with
  | true =>
   have hg:g x = false:=by
    cases hg:g x with
    | false=>rfl
    | true=>exact absurd ⟨hf,hg⟩ (hd x (by simp))
   rw [List.filter_cons_of_pos hf,List.filter_cons_of_neg (by simp [hg]),List.filter_cons_of_pos (by simp [hf]),List.cons_append,ih]
  | false =>
   cases hg:g x with
   | false=>rw [List.filter_cons_of_neg (by simp [hf]),List.filter_cons_of_neg (by simp [hg]),List.filter_cons_of_neg (by simp [hf,hg]),ih]
   | true =>
    have e:r.filter f = []:=List.filter_eq_nil_iff.2 fun q hq hfq=>h1 q hq ⟨hg,hfq⟩
    rw [List.filter_cons_of_neg (by simp [hf]),List.filter_cons_of_pos hg,List.filter_cons_of_pos (by simp [hg]),e,List.nil_append,← ih,e,List.nil_append]
theorem ofNms_up {xs:List Pk} (hx:xs.Pairwise fun p q=>¬ q.nm < p.nm):∀ {ns:List Bs},Up ns → ofNms xs ns = inW ns xs
 | [],_=>by
  unfold ofNms inW
  simp
 | n :: r,h=>by
  obtain ⟨h1,h2⟩:=List.pairwise_cons.1 h
  have ih:=ofNms_up hx h2
  have e0:ofNms xs (n :: r) = ofNm xs n ++ ofNms xs r:=by unfold ofNms; rw [List.flatMap_cons]
  rw [e0,ih]
  unfold ofNm inW
  rw [two_parts (f:=fun p=>decide (p.nm = n)) (g:=fun p=>decide (p.nm ∈ r))]
  ·refine List.filter_congr fun p _=>?_
   simp [List.mem_cons]
  ·refine hx.imp fun {p q} hpq hh=>hpq ?_
   obtain ⟨hp,hq⟩:=hh
   rw [decide_eq_true_eq] at hp hq
   rw [hq,Ix.lt_cb]
   exact h1 _ hp
  ·rintro p _ ⟨hp,hq⟩
   rw [decide_eq_true_eq] at hp hq
   have:=h1 _ hq
   rw [hp,← Ix.lt_cb] at this
   exact List.lt_irrefl _ this
theorem rising_up {ns:List Bs} (h:ns.Nodup):Up (rising ns):=by
 rw [← Ix.names_one (l:=ns) h fun x=>Iff.rfl]
 exact Ix.insNs_up ns [] List.Pairwise.nil
theorem rising_mem (ns:List Bs) (x:Bs):x ∈ rising ns ↔ x ∈ ns:=by
 unfold rising
 exact (List.mergeSort_perm ns _).mem_iff
theorem ofNms_rising {l xs:List Pk} (hx:Sorts l xs) {ns:List Bs} (h:ns.Nodup):ofNms xs (rising ns) = inW ns xs:=by
 rw [ofNms_up (sorts_nm hx) (rising_up h)]
 exact inW_congr fun n _=>rising_mem ns n
theorem inW_all {W:List Bs} {xs:List Pk} (h:∀ p ∈ xs,p.nm ∈ W):inW W xs = xs:=by
 unfold inW
 exact List.filter_eq_self.2 fun p hp=>decide_eq_true (h p hp)
end Un
end Go.Proofs.YtmhpjjjjgakpiaaGreatDoor

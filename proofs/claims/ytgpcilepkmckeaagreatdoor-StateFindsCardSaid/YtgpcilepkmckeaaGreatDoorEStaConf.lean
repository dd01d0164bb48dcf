/-
Entries in a row of the call's own that is written in place: the cells of each, and where their lists lie. configured: packages as entries that are all configured; Healthy.
-/
import Derived.Test.YtgpcilepkmckeaaGreatDoorEStaAwake
import Derived.Test.YtgpcilepkmckeaaGreatDoorERecBare
import Derived.Deep.MidRow
import Derived.Test.YtgpcilepkmckeaaGreatDoorEIxDef
import Derived.Test.YtgpcilepkmckeaaGreatDoorEReg
import Derived.Test.YtgpcilepkmckeaaGreatDoorEVerRefParse
import Derived.Test.YtgpcilepkmckeaaGreatDoorERelDef
import Derived.Test.YtgpcilepkmckeaaGreatDoorERelOwn
import Derived.Laws.Concat
import Derived.Test.YtgpcilepkmckeaaGreatDoorShelf
import Derived.Shelf.Slices.CompactS
import Derived.Test.YtgpcilepkmckeaaGreatDoorEStaWrong
namespace Go.Proofs.YtgpcilepkmckeaaGreatDoor
open Go.RowKit
set_option linter.unusedSimpArgs false
set_option linter.unusedVariables false
namespace Sa
open Ver (Bs S)
open Rl (At Slc mem_getD)
open Rc (Pk nPk En nEn EnC CAt Has Ens infoEn)
structure Ee where
 en:En
 u1:Value
 u2:Value
 u3:Value
 u4:Value
 u5:Value
 u6:Value
 sl:∀ u ∈ [u1,u2,u3,u4,u5,u6],∃ a n c,u = Value.slice a n c
instance:Inhabited Ee:=⟨⟨nEn,.slice none 0 0,.slice none 0 0,.slice none 0 0,.slice none 0 0,.slice none 0 0,.slice none 0 0,fun u hu=>by simp at hu; exact ⟨none,0,0,hu⟩⟩⟩
def Ee.enc (x:Ee):List Value:=[.string (S x.en.pk.nm),.string (S x.en.pk.vs),x.u1,x.u2,x.u3,x.u4,x.u5,x.u6,.bool x.en.pk.ess,.bool x.en.cfg,.bool x.en.hld]
theorem Ee.one (x:Ee):∀ u ∈ x.enc,u.oneCell' = true:=by
 intro u hu
 unfold Ee.enc at hu
 simp only [List.mem_cons,List.not_mem_nil,or_false] at hu
 have h:∀ v ∈ [x.u1,x.u2,x.u3,x.u4,x.u5,x.u6],v.oneCell' = true:=fun v hv=>by
  obtain ⟨a,n,c,e⟩:=x.sl v hv
  rw [e]; rfl
 simp only [List.mem_cons,List.not_mem_nil,or_false] at h
 rcases hu with rfl | rfl | e | e | e | e | e | e | rfl | rfl | rfl
 ·rfl
 ·rfl
 ·exact h u (.inl e)
 ·exact h u (.inr (.inl e))
 ·exact h u (.inr (.inr (.inl e)))
 ·exact h u (.inr (.inr (.inr (.inl e))))
 ·exact h u (.inr (.inr (.inr (.inr (.inl e)))))
 ·exact h u (.inr (.inr (.inr (.inr (.inr e)))))
 ·rfl
 ·rfl
 ·rfl
def Ee.Is (x:Ee) (w:World):Prop:=Has w x.en.pk x.u1 x.u2 x.u3 x.u4 x.u5 x.u6
theorem Ee.Is.below {x:Ee} {w w':World} (h:x.Is w) (hb:Below w.heap.size w w'):x.Is w':=Has.below h hb
theorem choose_list {α:Type} {P:Nat → α → Prop}:∀ n:Nat,(∀ i,i < n → ∃ x,P i x) → ∃ l:List α,l.length = n ∧ ∀ i x,l[i]? = some x → P i x
 | 0,_=>⟨[],rfl,fun i x h=>by simp at h⟩
 | n + 1,h=>by
  obtain ⟨l,h1,h2⟩:=choose_list n fun i hi=>h i (by omega)
  obtain ⟨y,hy⟩:=h n (by omega)
  refine ⟨l ++ [y],by simp [h1],fun i x hx=>?_⟩
  by_cases hi:i < l.length
  ·rw [List.getElem?_append_left hi] at hx
   exact h2 i x hx
  ·rw [List.getElem?_append_right (by omega)] at hx
   have:i = n:=by
    by_cases e:i - l.length = 0
    ·omega
    ·rw [List.getElem?_eq_none (by simp; omega)] at hx; cases hx
   subst this
   rw [h1,Nat.sub_self] at hx
   simp at hx
   subst hx
   exact hy
theorem get_getD {α:Type} {l:List α} {i:Nat} {x:α} (h:l[i]? = some x) (z:α):l.getD i z = x:=by rw [List.getD_eq_getElem?_getD,h]; rfl
theorem ee_at {w:World} {B:Nat} {R rc n:Nat} {ds:List Ee} (h:w.ownsRow B 45 11 (.slice (some ⟨R,0,none⟩) n rc) n (ds.flatMap Ee.enc)) {i:Nat} {x:Ee} (hx:ds[i]? = some x) {j:Nat} {u:Value} (hj:x.enc[j]? = some u):w.cell? ⟨R,i * 11 + j,none⟩ = some u:=by
 rw [Nat.mul_comm i 11]
 exact Rl.own_cell h (by rw [Rl.flat_at Ee.enc 11 (fun _=>rfl) ds i j x hx (List.getElem?_eq_some_iff.1 hj).1]; exact hj)
theorem own_ees {w:World} {B:Nat} {v:Value} {ds:List Ee} {n:Nat} (h:w.ownsRow B 45 11 v n (ds.flatMap Ee.enc)) (hn:ds.length = n) (hh:∀ x ∈ ds,x.Is w) (hl:n ≤ 1152921504606846976):Ens w v (ds.map Ee.en):=by
 obtain ⟨a,cap,rfl,hc⟩:=Rl.own_shape h
 refine ⟨by rw [List.length_map]; omega,a,cap,by rw [List.length_map,hn],by rw [List.length_map]; omega,fun h0=>?_⟩
 rw [List.length_map] at h0
 obtain ⟨R,c2,e,_⟩:=Rl.own_slice h (by omega)
 simp only [Value.slice.injEq,true_and] at e
 obtain ⟨rfl,rfl⟩:=e
 refine ⟨R,0,rfl,fun i hi=>?_⟩
 rw [List.length_map] at hi
 obtain ⟨x,hx⟩:∃ x,ds[i]? = some x:=⟨ds[i],List.getElem?_eq_getElem hi⟩
 have e:(ds.map Ee.en).getD i nEn = x.en:=get_getD (by rw [List.getElem?_map,hx]; rfl) _
 rw [e]
 refine ⟨x.enc,⟨_,_,_,_,_,_,rfl,hh x (List.mem_of_getElem? hx)⟩,fun j u hj=>?_⟩
 rw [Nat.zero_add,Nat.mul_comm 11 i]
 exact ee_at h hx hj
theorem flat_set:∀ (ds:List Ee) (i j:Nat) (x y:Ee) (u:Value),ds[i]? = some x → j < 11 → y.enc = x.enc.set j u → (ds.flatMap Ee.enc).set (i * 11 + j) u = (ds.set i y).flatMap Ee.enc
 | [],i,j,x,y,u,h,_,_=>by simp at h
 | z :: r,0,j,x,y,u,h,hj,he=>by
  simp at h
  subst h
  rw [List.flatMap_cons,Nat.zero_mul,Nat.zero_add,List.set_append_left _ _ (by rw [show z.enc.length = 11 from rfl]; exact hj),← he]
  rfl
 | z :: r,i + 1,j,x,y,u,h,hj,he=>by
  simp at h
  have ih:=flat_set r i j x y u h hj he
  have hz:z.enc.length = 11:=rfl
  rw [List.flatMap_cons,List.set_append_right _ _ (by rw [hz]; omega),hz,show (i + 1) * 11 + j - 11 = i * 11 + j by omega,ih]
  rfl
theorem ee_set {w:World} {B:Nat} {R rc n:Nat} {ds:List Ee} (h:w.ownsRow B 45 11 (.slice (some ⟨R,0,none⟩) n rc) n (ds.flatMap Ee.enc)) {i:Nat} {x y:Ee} (hx:ds[i]? = some x) {j:Nat} (hj:j < 11) {u:Value} (he:y.enc = x.enc.set j u):(w.setCell ⟨R,i * 11 + j,none⟩ u).ownsRow B 45 11 (.slice (some ⟨R,0,none⟩) n rc) n ((ds.set i y).flatMap Ee.enc):=by
 have hlt:i * 11 + j < (ds.flatMap Ee.enc).length:=by
  have hi:i < ds.length:=(List.getElem?_eq_some_iff.1 hx).1
  have:(ds.flatMap Ee.enc).length = ds.length * 11:=by
   clear h hx hi
   induction ds with
   | nil=>simp
   | cons x l ih=>rw [List.flatMap_cons,List.length_append,ih,List.length_cons,Nat.add_mul,show x.enc.length = 11 from rfl]; omega
  omega
 have:=Rl.own_set h hlt u
 rwa [flat_set ds i j x y u hx hj he] at this
end Sa
end Go.Proofs.YtgpcilepkmckeaaGreatDoor
namespace Go.Proofs.YtgpcilepkmckeaaGreatDoor
open Go.RowKit
set_option linter.unusedSimpArgs false
set_option linter.unusedVariables false
namespace Sa
open Ver (Bs li li_len S S_self S_size S_li)
open Rl (At Pv Ats Pvs Clss Slc LimA LimP LimC Vars aV nA mem_getD)
open Rc (Pk nPk PkV PkC Has En nEn Ens EnC CAt Pks pk_read append_big infoEn)
theorem take_snoc {α:Type} {l:List α} {z:α} {k:Nat} (hk:k < l.length):l.take (k + 1) = l.take k ++ [l.getD k z]:=by
 rw [List.getD_eq_getElem?_getD,List.getElem?_eq_getElem hk,Option.getD_some,List.take_append_getElem hk]
def eeOf (x:Pk) (a1:Option Addr) (n1 c1:Nat) (a2:Option Addr) (n2 c2:Nat) (a3:Option Addr) (n3 c3:Nat) (a4:Option Addr) (n4 c4:Nat) (a5:Option Addr) (n5 c5:Nat) (a6:Option Addr) (n6 c6:Nat) (b h:Bool):Ee :=
 ⟨⟨x,b,h⟩,.slice a1 n1 c1,.slice a2 n2 c2,.slice a3 n3 c3,.slice a4 n4 c4,.slice a5 n5 c5,.slice a6 n6 c6,fun u hu=>by
  simp only [List.mem_cons,List.not_mem_nil,or_false] at hu
  rcases hu with rfl | rfl | rfl | rfl | rfl | rfl <;> exact ⟨_,_,_,rfl⟩⟩
set_option maxRecDepth 100000 in
set_option maxHeartbeats 8000000 in
theorem configured_any (v:Value) (l:List Pk) (w:World) (h:Pks w v l) (hl:l.length ≤ 60000) :
  Calls Tryz.prog 23 #[v] w fun e w'=>∃ v',e = .returned v' ∧ ∃ ds:List Ee,w'.ownsRow w.heap.size 45 11 v' ds.length (ds.flatMap Ee.enc) ∧ ds.map Ee.en = conf l ∧ (∀ x ∈ ds,x.Is w) ∧ Below w.heap.size w w':=by
 obtain ⟨sa,cap,rfl⟩:=h.shape
 have H:=Lib.hid h
 obtain ⟨n,hn⟩:∃ n,l.length = n:=⟨_,rfl⟩
 have HN:=Lib.hid hn
 rw [hn] at hl
 rw [hn]
 clear hn h
 go_enter Tryz.func23,Tryz.ntmps23
 go_wp2_with fail
 go_loopg [3,8] n (fun gf s3 s8 wx=>∃ (k:Nat) (na:Option Addr) (nc:Nat) (ds:List Ee),s3 = .slice na k nc ∧ s8 = .int .i64 k ∧ Hid (wx.ownsRow w.heap.size 45 11 (.slice na k nc) k (ds.flatMap Ee.enc)) ∧ Hid (ds.length = k ∧ ds.map Ee.en = conf (l.take k) ∧ ∀ x ∈ ds,x.Is w) ∧ Hid (Below w.heap.size w wx) ∧ k ≤ n ∧ n ≤ k + gf)
 case atStart=>exact ⟨0,none,0,[],rfl,rfl,Lib.hid (World.ownsRow_nil _ _ _ _),Lib.hid ⟨rfl,rfl,fun x hx=>by cases hx⟩,Lib.hid (Below.refl _ _),by omega,by omega⟩
 case round =>
  obtain ⟨k,na,nc,ds,rfl,rfl,HO,HD,HB,hkn,hfu⟩:=hrel
  by_cases hlt:k < n
  ·obtain ⟨g',rfl⟩:∃ g',gk = g' + 1:=⟨gk - 1,by omega⟩
   have hlt':(k:Int) < (n:Int):=by omega
   have hk0:(0:Int) ≤ k:=by omega
   have hkl:k < l.length:=by rw [HN.out]; exact hlt
   obtain ⟨_,a',cap',e1,_,hcells⟩:=H.out
   rw [HN.out] at e1
   simp only [Value.slice.injEq,true_and] at e1
   obtain ⟨rfl,rfl⟩:=e1
   obtain ⟨kb,off,rfl,hcl2⟩:=hcells (by omega)
   obtain ⟨a1,n1,c1,a2,n2,c2,a3,n3,c3,a4,n4,c4,a5,n5,c5,a6,n6,c6,⟨x0,x1,x2,x3,x4,x5,x6,x7,x8⟩,hh⟩:=pk_read (hcl2 k hkl)
   rw [Nat.mul_comm 9 k] at x0 x1 x2 x3 x4 x5 x6 x7 x8
   replace x0:=Rl.cell_on x0 HB.out
   replace x1:=Rl.cell_on x1 HB.out
   replace x2:=Rl.cell_on x2 HB.out
   replace x3:=Rl.cell_on x3 HB.out
   replace x4:=Rl.cell_on x4 HB.out
   replace x5:=Rl.cell_on x5 HB.out
   replace x6:=Rl.cell_on x6 HB.out
   replace x7:=Rl.cell_on x7 HB.out
   replace x8:=Rl.cell_on x8 HB.out
   have htk:=take_snoc (z:=nPk) hkl
   obtain ⟨x,hx⟩:∃ x,l.getD k nPk = x:=⟨_,rfl⟩
   rw [hx] at x0 x1 x8 hh htk
   have HTK:=Lib.hid htk
   have HH:=Lib.hid hh
   have hb2:=(Below.refl wr.heap.size wr).alloc (Nat.le_refl _) (.cells #[.string (S x.nm),.string (S x.vs),.slice a1 n1 c1,.slice a2 n2 c2,.slice a3 n3 c3,.slice a4 n4 c4,.slice a5 n5 c5,.slice a6 n6 c6,.bool x.ess] 40)
   have i2:=Blk.Is.new wr 40 #[.string (S x.nm),.string (S x.vs),.slice a1 n1 c1,.slice a2 n2 c2,.slice a3 n3 c3,.slice a4 n4 c4,.slice a5 n5 c5,.slice a6 n6 c6,.bool x.ess]
   obtain ⟨bx,hbx⟩:∃ bx,wr.heap.size = bx:=⟨_,rfl⟩
   obtain ⟨V,hV⟩:∃ V,wr.alloc (.cells #[.string (S x.nm),.string (S x.vs),.slice a1 n1 c1,.slice a2 n2 c2,.slice a3 n3 c3,.slice a4 n4 c4,.slice a5 n5 c5,.slice a6 n6 c6,.bool x.ess] 40) = V:=⟨_,rfl⟩
   rw [hV] at hb2 i2
   rw [hbx] at i2
   have o2:=Own.owns_below HO.out hb2
   have b2:=HB.out.trans (hb2.mono HB.out.size)
   have z0:=i2.at (i:=0) rfl
   have z1:=i2.at (i:=1) rfl
   have z2:=i2.at (i:=2) rfl
   have z3:=i2.at (i:=3) rfl
   have z4:=i2.at (i:=4) rfl
   have z5:=i2.at (i:=5) rfl
   have z6:=i2.at (i:=6) rfl
   have z7:=i2.at (i:=7) rfl
   have z8:=i2.at (i:=8) rfl
   have hbA:=(Below.refl V.heap.size V).alloc (Nat.le_refl _) (.cells #[.string (S x.nm),.string (S x.vs),.slice a1 n1 c1,.slice a2 n2 c2,.slice a3 n3 c3,.slice a4 n4 c4,.slice a5 n5 c5,.slice a6 n6 c6,.bool x.ess,.bool true,.bool false] 45)
   have iA:=Blk.Is.new V 45 #[.string (S x.nm),.string (S x.vs),.slice a1 n1 c1,.slice a2 n2 c2,.slice a3 n3 c3,.slice a4 n4 c4,.slice a5 n5 c5,.slice a6 n6 c6,.bool x.ess,.bool true,.bool false]
   obtain ⟨WA,hWA⟩:∃ WA,V.alloc (.cells #[.string (S x.nm),.string (S x.vs),.slice a1 n1 c1,.slice a2 n2 c2,.slice a3 n3 c3,.slice a4 n4 c4,.slice a5 n5 c5,.slice a6 n6 c6,.bool x.ess,.bool true,.bool false] 45) = WA:=⟨_,rfl⟩
   rw [hWA] at hbA iA
   have OA:=Lib.hid (Own.owns_below o2 hbA)
   have BA:=Lib.hid (b2.trans (hbA.mono b2.size))
   have HCA:=Lib.hid iA
   have HWA:=Lib.hid hWA
   have ZA:=Lib.hid BA.out.size
   have K1:Hid ((k + 1) * 192 ≤ 140737488355328):=Lib.hid (by omega)
   have K2:Hid (k + 1 ≤ 4611686018427387904):=Lib.hid (by omega)
   have hu:=hV
   clear hcells hcl2 hkl htk hx hb2 i2 hV hh HO HB o2 b2 hbA iA hWA
   go_wp2_with (at_builtin; rw [HWA.out]; refine append_big Tryz.underlying26 infoEn rfl rfl (.tmp 12) (.tmp 15) rfl w.heap.size (.slice na k nc) k rfl ⟨_,OA.out⟩ V.heap.size 1 rfl [.string (S x.nm),.string (S x.vs),.slice a1 n1 c1,.slice a2 n2 c2,.slice a3 n3 c3,.slice a4 n4 c4,.slice a5 n5 c5,.slice a6 n6 c6,.bool x.ess,.bool true,.bool false] rfl (fun j u hj=>HCA.out.at (by rw [← Array.getElem?_toList]; exact hj)) (fun u hu=>by simp only [List.mem_cons,List.not_mem_nil,or_false] at hu; rcases hu with rfl | rfl | rfl | rfl | rfl | rfl | rfl | rfl | rfl | rfl | rfl <;> rfl) K1.out K2.out ZA.out ?_; intro v9 w9 h9 g9 _; have h9:=h9 _ OA.out; have b9:=Own.below_grown BA.out OA.out g9 ZA.out; obtain ⟨a9,r9,rfl,_⟩:=Rl.own_shape h9; have O9:=Lib.hid h9; have B9:=Lib.hid b9; clear h9 g9 b9)
   go_roundg g'
   case measure=>omega
   case rel =>
    refine ⟨k + 1,a9,r9,ds ++ [eeOf x a1 n1 c1 a2 n2 c2 a3 n3 c3 a4 n4 c4 a5 n5 c5 a6 n6 c6 true false],rfl,by go_num,Lib.hid ?_,Lib.hid ⟨by rw [List.length_append,HD.out.1]; rfl,?_,fun y hy=>?_⟩,B9,by omega,by omega⟩
    ·rw [List.flatMap_append]
     exact O9.out
    ·rw [List.map_append,HD.out.2.1,HTK.out]
     unfold conf
     rw [List.map_append]; rfl
    ·rcases List.mem_append.1 hy with hy | hy
     ·exact HD.out.2.2 y hy
     ·rw [List.mem_singleton.1 hy]
      exact HH.out
  ·obtain rfl:n = k:=by omega
   have hge:¬ (n:Int) < (n:Int):=by omega
   have hcf:ds.map Ee.en = conf l:=by rw [HD.out.2.1,List.take_of_length_le (Nat.le_of_eq HN.out)]
   have HCF:=Lib.hid hcf
   clear hcf
   go_wp2_with fail
   go_ret
   exact ⟨_,rfl,ds,by rw [HD.out.1]; exact HO.out,HCF.out,HD.out.2.2,HB.out⟩
end Sa
end Go.Proofs.YtgpcilepkmckeaaGreatDoor

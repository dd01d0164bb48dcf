/-
slices.SortStableFunc at entries, of fewer than forty: in order, entries of one key in the order in which they stood.
-/
import Derived.Test.YtgpcilepkmckeaaGreatDoorEStaStab
import Derived.Test.YtgpcilepkmckeaaGreatDoorEStaSym
import Derived.Test.YtgpcilepkmckeaaGreatDoorShelfIns
import Derived.Shelf.SlSortCmp.PdqK
import Derived.Deep.CutBlock
/-! Insertion sort,stable: of a row whose tags rise. -/
namespace Go.Proofs.YtgpcilepkmckeaaGreatDoor
set_option linter.unusedSectionVars false
set_option linter.unusedVariables false
namespace Sa
open Go.Sort
section
variable {α:Type} [Inhabited α] (lt:α → α → Bool) (tg:α → Nat)
def lt2 (x y:α):Bool:=lt x y || (!lt y x && decide (tg x < tg y))
theorem lt2_iff (hS:SWO lt) (x y:α):lt2 lt tg x y = true ↔ Bef lt tg x y:=by
 unfold lt2 Bef
 cases h1:lt x y <;> cases h2:lt y x <;> simp
theorem swo2 (hS:SWO lt):SWO (lt2 lt tg) where
 irrefl x:=by unfold lt2; rw [hS.irrefl]; simp
 trans x y z h1 h2:=by
  rw [lt2_iff lt tg hS] at h1 h2 ⊢
  exact bef_trans lt tg hS _ _ _ h1 h2
 ntrans x y z h1 h2:=by
  unfold lt2 at h1 h2 ⊢
  rw [Bool.or_eq_false_iff] at h1 h2 ⊢
  obtain ⟨a1,a2⟩:=h1
  obtain ⟨b1,b2⟩:=h2
  refine ⟨hS.ntrans _ _ _ a1 b1,?_⟩
  cases e:lt z x with
  | true=>rfl
  | false =>
   have f1:lt y x = false:=by
    cases q:lt y x with
    | false=>rfl
    | true =>
     have:=hS.ntrans _ _ _ b1 e
     rw [q] at this; exact absurd this (by decide)
   have f2:lt z y = false:=by
    cases q:lt z y with
    | false=>rfl
    | true =>
     have:=hS.ntrans _ _ _ e a1
     rw [q] at this; exact absurd this (by decide)
   rw [f1] at a2
   rw [f2] at b2
   simp at a2 b2 ⊢
   omega
theorem insInner_perm (a:Nat):∀ (j:Nat) (d:Array α),j < d.size → PermIn a (j + 1) d (insInner lt a j d):=by
 intro j
 induction j with
 | zero=>intro d _; rw [insInner]; exact permIn_refl _ _ _
 | succ j ih =>
  intro d hj
  rw [insInner]
  split
  ·rename_i h
   rw [Bool.and_eq_true,decide_eq_true_eq] at h
   have p1:=swp_permIn d a (j + 2) (j + 1) j (by omega) (by omega) (by omega) (by omega) (by omega)
   have p2:=permIn_mono _ _ a (j + 1) a (j + 2) (Nat.le_refl _) (by omega) (by rw [size_swp]; omega) (ih (swp d (j + 1) j) (by rw [size_swp]; omega))
   exact permIn_trans _ _ _ _ _ p1 p2
  ·exact permIn_refl _ _ _
theorem insInner_two (a:Nat):∀ (j:Nat) (d:Array α),j < d.size → (∀ k,a ≤ k → k < j → tg d[k]! < tg d[j]!) → insInner lt a j d = insInner (lt2 lt tg) a j d:=by
 intro j
 induction j with
 | zero=>intro d _ _; rw [insInner,insInner]
 | succ j ih =>
  intro d hj ht
  rw [insInner,insInner]
  by_cases ha:j + 1 > a
  ·have e:lt2 lt tg d[j + 1]! d[j]! = lt d[j + 1]! d[j]!:=by
    unfold lt2
    rw [decide_eq_false (by have:=ht j (by omega) (by omega); omega)]
    simp
   rw [e]
   split
   ·refine ih _ (by rw [size_swp]; omega) fun k hk1 hk2=>?_
    rw [swp_right d (j + 1) j (by omega),swp_other d _ _ _ (by omega) (by omega)]
    exact ht k hk1 (by omega)
   ·rfl
  ·simp [ha]
theorem io_go (f:α → α → Bool) (a b i:Nat) (d:Array α) (h:i < b):insOuter f a b i d = insOuter f a b (i + 1) (insInner f a i d):=by rw [insOuter,if_pos h]
theorem io_stop (f:α → α → Bool) (a b i:Nat) (d:Array α) (h:¬ i < b):insOuter f a b i d = d:=by rw [insOuter,if_neg h]
theorem insOuter_two (a b:Nat):∀ (n i:Nat) (d:Array α),b - i ≤ n → b ≤ d.size → (∀ k l,a ≤ k → k < l → i ≤ l → l < b → tg d[k]! < tg d[l]!) → insOuter lt a b i d = insOuter (lt2 lt tg) a b i d:=by
 intro n
 induction n with
 | zero=>intro i d h _ _; rw [io_stop _ _ _ _ _ (by omega),io_stop _ _ _ _ _ (by omega)]
 | succ n ih =>
  intro i d h hb ht
  by_cases hi:i < b
  ·rw [io_go _ _ _ _ _ hi,io_go _ _ _ _ _ hi,← insInner_two lt tg a i d (by omega) (fun k h1 h2=>ht k i h1 h2 (Nat.le_refl _) hi)]
   have hp:=insInner_perm lt a i d (by omega)
   refine ih (i + 1) _ (by omega) (by rw [hp.1]; exact hb) fun k l h1 h2 h3 h4=>?_
   rw [hp.2.1 l (by omega)]
   by_cases c:k < i + 1
   ·exact permIn_all d _ a (i + 1) (fun v=>tg v < tg d[l]!) (by omega) hp (fun x hx1 hx2=>ht x l hx1 (by omega) (by omega) h4) k h1 c
   ·rw [hp.2.1 k (by omega)]
    exact ht k l h1 h2 (by omega) h4
  ·rw [io_stop _ _ _ _ _ hi,io_stop _ _ _ _ _ hi]
theorem tags_apart {a b:Nat} {d d':Array α} (hb:b ≤ d.size) (ht:∀ k l,a ≤ k → k < l → l < b → tg d[k]! < tg d[l]!) (hp:PermIn a b d d') (i j:Nat) (h1:a ≤ i) (h2:i < j) (h3:j < b):tg d'[i]! ≠ tg d'[j]!:=by
 have e0:=extract_toList d a b hb
 have e1:=extract_toList d' a b (by rw [hp.1]; exact hb)
 have hn:((d.extract a b).toList.map tg).Nodup:=by
  rw [e0,List.map_map]
  refine List.pairwise_map.2 ?_
  refine List.Pairwise.imp_of_mem ?_ (List.pairwise_lt_range' (s:=a) (n:=b - a))
  intro k l hk hl hkl
  have hl':=List.mem_range'_1.1 hl
  have hk':=List.mem_range'_1.1 hk
  exact Nat.ne_of_lt (ht k l hk'.1 hkl (by omega))
 have hn2:((d'.extract a b).toList.map tg).Nodup:=(hp.2.2.map tg).nodup_iff.2 hn
 rw [e1,List.map_map] at hn2
 have:=(List.pairwise_iff_getElem.1 hn2) (i - a) (j - a) (by simp; omega) (by simp; omega) (by omega)
 simpa [show a + (i - a) = i by omega,show a + (j - a) = j by omega] using this
theorem ins_rise (hS:SWO lt) {a b:Nat} {d:Array α} (hab:a ≤ b) (hb:b ≤ d.size) (ht:∀ k l,a ≤ k → k < l → l < b → tg d[k]! < tg d[l]!) :
  PermIn a b d (insertionSort lt d a b) ∧ Rise lt tg a b (insertionSort lt d a b):=by
 have e:insertionSort lt d a b = insertionSort (lt2 lt tg) d a b:=insOuter_two lt tg a b b (a + 1) d (by omega) hb (fun k l h1 h2 h3 h4=>ht k l h1 h2 h4)
 obtain ⟨hp,hs⟩:=insertionSort_holds (lt:=lt2 lt tg) (swo2 lt tg hS) d a b hab hb
 rw [← e] at hp hs
 refine ⟨hp,fun i j h1 h2 h3=>?_⟩
 have h:=hs i j h1 h2 h3
 have hne:=tags_apart tg hb ht hp i j h1 h2 h3
 unfold lt2 at h
 rw [Bool.or_eq_false_iff] at h
 cases q:lt (insertionSort lt d a b)[i]! (insertionSort lt d a b)[j]! with
 | true=>exact Or.inl q
 | false =>
  refine Or.inr ⟨q,h.1,?_⟩
  have h2:=h.2
  rw [q] at h2
  simp at h2
  omega
end
end Sa
end Go.Proofs.YtgpcilepkmckeaaGreatDoor
namespace Go.Proofs.YtgpcilepkmckeaaGreatDoor
open Go.RowKit Go.Shelf Go.Lib Go.Sort
set_option linter.unusedSimpArgs false
set_option linter.unusedVariables false
namespace Sa
section
variable {α:Type} [Inhabited α] (lt:α → α → Bool) (tg:α → Nat)
def Two (n:Nat) (d dk:Array α):Prop:=PermIn 0 n d dk ∧ (n ≤ 20 → Rise lt tg 0 n dk) ∧ (20 < n → Rise lt tg 0 20 dk ∧ Rise lt tg 20 n dk ∧ Tags tg 0 20 n dk)
theorem two_low (hS:SWO lt) {n:Nat} {d:Array α} (hn:d.size = n) (ht:∀ k l,k < l → l < n → tg d[k]! < tg d[l]!) (h:n < 20):Two lt tg n d (insertionSort lt d 0 n):=by
 obtain ⟨p,r⟩:=ins_rise lt tg hS (a:=0) (b:=n) (d:=d) (Nat.zero_le _) (by omega) (fun k l _ h2 h3=>ht k l h2 h3)
 exact ⟨p,fun _=>r,fun h=>absurd h (by omega)⟩
theorem two_high (hS:SWO lt) {n:Nat} {d d1:Array α} (hn:d.size = n) (ht:∀ k l,k < l → l < n → tg d[k]! < tg d[l]!) (h:20 ≤ n) (p1:PermIn 0 20 d d1) (r1:Rise lt tg 0 20 d1):Two lt tg n d (insertionSort lt d1 20 n):=by
 have hs1:d1.size = n:=by rw [p1.1,hn]
 obtain ⟨p,r⟩:=ins_rise lt tg hS (a:=20) (b:=n) (d:=d1) h (by omega) (fun k l h1 h2 h3=>by rw [p1.2.1 k (by omega),p1.2.1 l (by omega)]; exact ht k l h2 h3)
 have P:PermIn 0 n d (insertionSort lt d1 20 n):=permIn_trans _ _ _ _ _ (permIn_mono _ _ 0 20 0 n (Nat.le_refl _) h (by omega) p1) (permIn_mono _ _ 20 n 0 n (by omega) (Nat.le_refl _) (by omega) p)
 have R20:Rise lt tg 0 20 (insertionSort lt d1 20 n):=rise_perm lt tg r1 fun i _ h2=>p.2.1 i (by omega)
 refine ⟨P,fun hle=>?_,fun _=>⟨R20,r,fun i j a1 a2 a3 a4=>?_⟩⟩
 ·obtain rfl:n = 20:=by omega
  exact R20
 ·rw [p.2.1 i (by omega)]
  have q:∀ y,20 ≤ y → y < n → tg d1[i]! < tg d1[y]!:=fun y hy1 hy2=>by
   rw [p1.2.1 y (by omega)]
   exact permIn_all d d1 0 20 (fun v=>tg v < tg d[y]!) (by omega) p1 (fun x hx1 hx2=>ht x y (by omega) hy2) i a1 a2
  exact permIn_all d1 _ 20 n (fun v=>tg d1[i]! < tg v) (by omega) p q j a3 a4
end
variable {α:Type} [Inhabited α]
set_option maxHeartbeats 8000000 in
set_option maxRecDepth 1000000 in
theorem stable_any (enc:α → List Value) (cf:α → α → Int) (hO:Hid (SWO (ltOf cf))) (tg:α → Nat) (g:Nat) (cb:Array Value) (blk off cap n:Nat) (d:Array α) (w:World)
  (eg:∀ args w,(callFunc g args).run Tryz.prog w = .ok (.enter g args) w) (hcmp:CmpLays Tryz.prog g cb enc 11 cf blk off d.size w) (R:RowK enc 11 w blk off d) (hs:d.size = n) (hn:n < 40)
  (ht:∀ k l,k < l → l < n → tg d[k]! < tg d[l]!) :
  Calls Tryz.prog 51 #[.slice (some ⟨blk,off,none⟩) n cap,.int .i64 n,.func (.func g) #[] cb] w fun e w' =>
   e = .returned (.tuple #[]) ∧ ∃ d',SWK enc 11 w blk off d' w' ∧ PermIn 0 n d d' ∧ Rise (ltOf cf) tg 0 n d':=by
 have RR:Hid (RowK enc 11 w blk off d):=R
 have HD:Hid (d.size = n):=hs
 have HC:Hid (CmpLays Tryz.prog g cb enc 11 cf blk off d.size w):=hcmp
 have HT:Hid (∀ k l,k < l → l < n → tg d[k]! < tg d[l]!):=ht
 have EG:Hid (∀ args w,(callFunc g args).run Tryz.prog w = .ok (.enter g args) w):=eg
 have INS:Hid (∀ (a b:Nat) (dk:Array α) (u:World),dk.size = n → SWK enc 11 w blk off dk u → a ≤ b → b ≤ n →
   Calls Tryz.prog 74 #[.slice (some ⟨blk,off,none⟩) n cap,.int .i64 a,.int .i64 b,.func (.func g) #[] cb] u fun e w'=>e = .returned (.tuple #[]) ∧ SWK enc 11 w blk off (Sort.insertionSort (ltOf cf) dk a b) w'):=fun a b dk u hk hS hab hb=>by
  have h:=AnyQ.insertionSortCmpFunc_w (P:=Tryz.prog) (ρ:=Tryz.insE_ren) Tryz.insE 11 Tryz.isAgg45 Tryz.sizeOf45 enc cf g cb blk off cap a b d dk w u eg hcmp R (by rw [hs,hk]) hS hO.out hab (by omega) (by omega)
  rw [hk] at h
  exact h
 have S0:Hid (SWK enc 11 w blk off d w):=SWK.start R.hH
 clear R hs hcmp ht eg
 go_enter Tryz.func51,Tryz.ntmps51
 go_wp2_with fail
 go_loopg [7,8] 2 (fun g1 va vb wr=>∃ (aa bb:Nat) (dk:Array α),va = .int .i64 aa ∧ vb = .int .i64 bb ∧ bb = aa + 20 ∧ 60 ≤ bb + 20 * g1 ∧ Hid (SWK enc 11 w blk off dk wr) ∧ Hid ((aa = 0 ∧ dk = d) ∨ (aa = 20 ∧ 20 ≤ n ∧ PermIn 0 20 d dk ∧ Rise (ltOf cf) tg 0 20 dk)))
 case atStart=>exact ⟨0,20,d,rfl,rfl,rfl,by omega,S0,Or.inl ⟨rfl,rfl⟩⟩
 case round =>
  obtain ⟨aa,bb,dk,rfl,rfl,hbb,hg1,SK,HA⟩:=hrel
  by_cases hlt:bb ≤ n
  ·have hltz:(bb:Int) ≤ (n:Int):=by omega
   have ha0:aa = 0:=by rcases HA.out with h | h <;> omega
   have hdk:dk = d:=HA.out.elim (fun h=>h.2) (fun h=>absurd h.1 (by omega))
   subst ha0
   subst hdk
   obtain rfl:bb = 20:=by omega
   have hc:=INS.out 0 20 dk _ HD.out SK.out (by omega) (by omega)
   change Calls _ _ #[.slice (some ⟨blk,off,none⟩) n cap,.int .i64 0,.int .i64 20,.func (.func g) #[] cb] wr _ at hc
   have IR:Hid _:=ins_rise (ltOf cf) tg hO.out (a:=0) (b:=20) (d:=dk) (by omega) (by rw [HD.out]; omega) (fun k l _ h2 h3=>HT.out k l h2 (by omega))
   clear HA
   go_wp2_with fail
   refine hc.mono ?_
   rintro e w1 ⟨rfl,hw1⟩
   go_wp2_with fail
   go_roundg 1
   case measure=>omega
   case rel=>exact ⟨20,40,_,rfl,by first | rfl | go_num,rfl,by omega,hw1,Or.inr ⟨rfl,by omega,IR.out.1,IR.out.2⟩⟩
  ·have hltz:¬ (bb:Int) ≤ (n:Int):=by omega
   have han:aa ≤ n:=by rcases HA.out with h | h <;> omega
   have hsk:dk.size = n:=HA.out.elim (fun h=>by rw [h.2]; exact HD.out) (fun h=>by rw [h.2.2.1.1]; exact HD.out)
   have hc:=INS.out aa n dk _ hsk SK.out han (Nat.le_refl _)
   have TW:Hid (Two (ltOf cf) tg n d (Sort.insertionSort (ltOf cf) dk aa n)):=by
    rcases HA.out with ⟨h1,h2⟩ | ⟨h1,h2,h3,h4⟩
    ·rw [h1,h2]; exact two_low (ltOf cf) tg hO.out HD.out HT.out (by omega)
    ·rw [h1]; exact two_high (ltOf cf) tg hO.out HD.out HT.out h2 h3 h4
   clear HA hsk
   generalize Sort.insertionSort (ltOf cf) dk aa n = d2 at TW hc
   go_wp2_with fail
   refine hc.mono ?_
   rintro e w1 ⟨rfl,hw1⟩
   have HW1:Hid (SWK enc 11 w blk off d2 w1):=hw1
   clear hw1 hc SK
   go_wp2_with fail
   go_loopg [6] 2 (fun g2 vs wr=>∃ (bs:Nat) (dk:Array α),vs = .int .i64 bs ∧ 60 ≤ bs + 20 * g2 ∧ bs ≤ 40 ∧ Hid (SWK enc 11 w blk off dk wr) ∧ Hid ((bs = 20 ∧ Two (ltOf cf) tg n d dk) ∨ (bs = 40 ∧ PermIn 0 n d dk ∧ Rise (ltOf cf) tg 0 n dk)))
   case atStart=>exact ⟨20,d2,rfl,by omega,by omega,HW1,Or.inl ⟨rfl,TW.out⟩⟩
   case round =>
    clear HW1 TW
    obtain ⟨bs,d3,rfl,hg2,hb4,SK,HB⟩:=hrel
    by_cases hlt2:bs < n
    ·have hz:(bs:Int) < (n:Int):=by omega
     have h20:bs = 20:=by rcases HB.out with h | h <;> omega
     subst h20
     have hT3:Two (ltOf cf) tg n d d3:=HB.out.elim (fun h=>h.2) (fun h=>absurd h.1 (by omega))
     obtain ⟨t1,t2,t3⟩:=hT3.2.2 (by omega)
     have hs3:d3.size = n:=by rw [hT3.1.1]; exact HD.out
     have hc:=symMerge_any sb enc cf hO tg g cb blk off cap n d w EG.out HC.out RR.out HD.out (by omega) (n + 1) 0 20 n d3 wr (by omega) hs3 SK.out (by omega) (by omega) (Nat.le_refl _) t1 t2 t3
     change Calls _ _ #[.slice (some ⟨blk,off,none⟩) n cap,.int .i64 0,.int .i64 20,.int .i64 n,.func (.func g) #[] cb] wr _ at hc
     have P3:Hid (PermIn 0 n d d3):=hT3.1
     have hz40:¬ (40:Int) ≤ (n:Int):=by omega
     have hz20:(20:Int) < (n:Int):=by omega
     clear HB hT3 t1 t2 t3 hs3
     go_wp2_with fail
     go_loopg [7,8] 1 (fun g3 va vb wx=>va = .int .i64 0 ∧ vb = .int .i64 40 ∧ wx = wr)
     case atStart=>exact ⟨by first | rfl | go_num,by first | rfl | go_num,rfl⟩
     case round =>
      obtain ⟨rfl,rfl,rfl⟩:=hrel
      go_wp2_with fail
      refine hc.mono ?_
      rintro e w3 ⟨rfl,d4,hw4,hp4,hr4⟩
      go_wp2_with fail
      go_roundg 1
      case measure=>omega
      case rel=>exact ⟨40,d4,by first | rfl | go_num,by omega,by omega,hw4,Or.inr ⟨rfl,permIn_trans _ _ _ _ _ P3.out hp4,hr4⟩⟩
    ·have hz:¬ (bs:Int) < (n:Int):=by omega
     have HF:Hid (PermIn 0 n d d3 ∧ Rise (ltOf cf) tg 0 n d3):=by
      rcases HB.out with ⟨h1,h2⟩ | ⟨h1,h2,h3⟩
      ·exact ⟨h2.1,h2.2.1 (by omega)⟩
      ·exact ⟨h2,h3⟩
     clear HB
     go_wp2_with fail
     go_end0
     exact ⟨rfl,d3,SK.out,HF.out.1,HF.out.2⟩
end Sa
end Go.Proofs.YtgpcilepkmckeaaGreatDoor

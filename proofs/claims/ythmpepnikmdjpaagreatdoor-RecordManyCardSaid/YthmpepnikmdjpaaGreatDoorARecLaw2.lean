/-
The law RecordMany.
-/
import Derived.Test.YthmpepnikmdjpaaGreatDoorARecBare
import Derived.Test.YthmpepnikmdjpaaGreatDoorARecMay
import Derived.Test.YthmpepnikmdjpaaGreatDoorARecYAll
import Derived.Laws.Concat
namespace Go.Proofs.YthmpepnikmdjpaaGreatDoor
open Go.RowKit
set_option linter.unusedSimpArgs false
set_option linter.unusedVariables false
namespace Rc
open Ver (Bs li li_len S S_self S_size S_li sameV)
open Rl (At Pv Ats Pvs Clss Slc LimA LimP LimC Vars nA nP mem_getD may nmB isV pvA aV pV tcells)
theorem modU (n:Int) (m:Nat) (h0:0 < m):∃ N:Nat,(IntKind.u64.wrap n).tmod m = (N:Int) ∧ N < m:=by
 have h1:0 ≤ IntKind.u64.wrap n:=by rw [IntKind.wrap_u64]; omega
 obtain ⟨k,hk⟩:=Int.eq_ofNat_of_zero_le h1
 rw [hk]
 exact ⟨k % m,rfl,Nat.mod_lt _ h0⟩
def bareP (a b:ByteArray):Pk:=⟨li a,li b,[],[],[],[],[],[],false⟩
def cellsP (a b:ByteArray):List Value:=[.string a,.string b,.slice none 0 0,.slice none 0 0,.slice none 0 0,.slice none 0 0,.slice none 0 0,.slice none 0 0,.bool false]
theorem slc_nil {α:Type} (sz:Nat) (z:α) (P:World → Nat → Nat → α → Prop) (w:World):Slc sz z P w (.slice none 0 0) []:=⟨by simp,_,_,rfl,Nat.le_refl _,fun h=>absurd h (by simp)⟩
theorem has_bare (a b:ByteArray) (w:World):Has w (bareP a b) (.slice none 0 0) (.slice none 0 0) (.slice none 0 0) (.slice none 0 0) (.slice none 0 0) (.slice none 0 0) :=
 ⟨slc_nil _ _ _ _,slc_nil _ _ _ _,slc_nil _ _ _ _,slc_nil _ _ _ _,slc_nil _ _ _ _,slc_nil _ _ _ _⟩
theorem pkc_bare (a b:ByteArray) (w:World):PkC w (cellsP a b) (bareP a b):=⟨_,_,_,_,_,_,by unfold cellsP bareP; simp only [S_self],has_bare a b w⟩
theorem enc_bare (a b:ByteArray) (w:World):EnC w (cellsP a b ++ [.bool false,.bool false]) ⟨bareP a b,false,false⟩:=⟨_,_,_,_,_,_,by unfold cellsP bareP; simp only [S_self]; rfl,has_bare a b w⟩
theorem lim_bare {a b:ByteArray} (ha:a.size ≤ 1000) (hb:b.size ≤ 1000):(bareP a b).Lim :=
 ⟨(by show (li a).length ≤ _; rw [li_len]; omega),(by show (li b).length ≤ _; rw [li_len]; omega),Va.nil_lim.1,Va.nil_lim.1,Va.nil_lim.1,Va.nil_lim.2.1,Va.nil_lim.2.1,Va.nil_lim.2.2⟩
theorem size112:(⟨#[112]⟩:ByteArray).size = 1:=rfl
theorem in_any {w:World} {Q:World → Prop} (b m:Nat) (h:∀ u,Q u):In b m w Q:=fun u _=>h u
theorem str_size (zs:List Int):(strOfNums zs).size = zs.length:=by simp [strOfNums,ByteArray.size]
theorem rowOne {w:World} {b:Nat} (zs:List Int) (h:Blk.Is w b 5 (zs.map (Value.int .u8)).toArray) (hb:Byte zs) (hl:zs.length ≤ 1000):Row w (some ⟨b,0,none⟩) zs.length zs :=
 Row.ofIs h 0 zs.length zs rfl (by omega) hb (fun j hj=>by simp [hj])
set_option maxRecDepth 100000 in
set_option maxHeartbeats 16000000 in
theorem many_walk (n m:Int) (w:World) (hG:Gl w) :
  Calls Tryz.prog 8 #[.int .i64 n,.int .i64 m] w fun e w'=>e = .returned (.bool true) ∧ Below w.heap.size w w':=by
 have HG:=Lib.hid hG
 clear hG
 obtain ⟨N,hN,hN4⟩:=modU n 28 (by omega)
 obtain ⟨M0,hM,hM4⟩:=modU m 13 (by omega)
 rw [show ((28:Nat):Int) = 28 from rfl] at hN
 rw [show ((13:Nat):Int) = 13 from rfl] at hM
 obtain ⟨M,hMM⟩:∃ M,M0 + 1 = M:=⟨_,rfl⟩
 have hM1:1 ≤ M:=by omega
 have hM13:M ≤ 13:=by omega
 have eM:(M0:Int) + 1 = (M:Int):=by omega
 go_enter Tryz.func8,Tryz.ntmps8
 go_wp2_with fail
 clear hN hM
 go_loopg [5,19] N (fun gf s5 s19 wx=>∃ (k:Nat) (pa:Option Addr) (pc:Nat) (ys:List Pk),s5 = .slice pa k pc ∧ s19 = .int .i64 k ∧ Hid (Acc PkC 9 31 w.heap.size 0 wx (.slice pa k pc) ys) ∧ Hid (ys.length = k ∧ ∀ x ∈ ys,x.Lim) ∧ Hid (Below w.heap.size w wx) ∧ k ≤ N ∧ N ≤ k + gf)
 case atStart=>exact ⟨0,none,0,[],rfl,rfl,Lib.hid (Acc.nil _ _ _ _ _ _),Lib.hid ⟨rfl,fun x hx=>by cases hx⟩,Lib.hid (Below.refl _ _),by omega,by omega⟩
 case round =>
  obtain ⟨k,pa,pc,ys,rfl,rfl,HA,HY,hbw,hkn,hfu⟩:=hrel
  by_cases hlt:k < N
  ·obtain ⟨g',rfl⟩:∃ g',gk = g' + 1:=⟨gk - 1,by omega⟩
   have hlt':(k:Int) < (N:Int):=by omega
   have hk0:(0:Int) ≤ k:=by omega
   have hk7:k + 1 ≤ 70000:=by omega
   go_wp2_with fail
   obtain ⟨q,hqd⟩:∃ q,k / M = q:=⟨_,rfl⟩
   obtain ⟨r,hrd⟩:∃ r,k % M = r:=⟨_,rfl⟩
   have hr13:r < 13:=by rw [← hrd]; exact Nat.lt_of_lt_of_le (Nat.mod_lt _ hM1) hM13
   have hq27:q ≤ 27:=by rw [← hqd]; exact Nat.le_trans (Nat.div_le_self _ _) (by omega)
   have hM0:¬ M = 0:=by omega
   have hr:(k:Int).tmod M = (r:Int):=by rw [show (k:Int).tmod M = ((k % M:Nat):Int) from rfl,hrd]
   have hq:IntKind.i64.wrap ((k:Int) / (M:Int)) = (q:Int):=by
    rw [show (k:Int) / (M:Int) = ((k / M:Nat):Int) from rfl,hqd]; exact IntWalk.i64_in _ (by omega)
   obtain ⟨q0,hq0d⟩:∃ x,q % 10 = x:=⟨_,rfl⟩
   obtain ⟨q1,hq1d⟩:∃ x,q / 10 = x:=⟨_,rfl⟩
   have hq09:q0 < 10:=by omega
   have hq19:q1 < 10:=by omega
   have hq0:(q:Int).tmod 10 = (q0:Int):=by rw [show (q:Int).tmod 10 = ((q % 10:Nat):Int) from rfl,hq0d]
   have hq1:IntKind.i64.wrap ((q:Int) / 10) = (q1:Int):=by
    rw [show (q:Int) / 10 = ((q / 10:Nat):Int) from rfl,hq1d]; exact IntWalk.i64_in _ (by omega)
   have h97:IntKind.i64.wrap (97 + (r:Int)) = 97 + (r:Int):=IntWalk.i64_in _ (by omega)
   have h97u:IntKind.u8.wrap (97 + (r:Int)) = 97 + (r:Int):=IntWalk.u8_in _ (by omega)
   have h48:IntKind.i64.wrap (48 + (q0:Int)) = 48 + (q0:Int):=IntWalk.i64_in _ (by omega)
   have h48u:IntKind.u8.wrap (48 + (q0:Int)) = 48 + (q0:Int):=IntWalk.u8_in _ (by omega)
   have h49:IntKind.i64.wrap (48 + (q1:Int)) = 48 + (q1:Int):=IntWalk.i64_in _ (by omega)
   have h49u:IntKind.u8.wrap (48 + (q1:Int)) = 48 + (q1:Int):=IntWalk.u8_in _ (by omega)
   clear hqd hrd hq0d hq1d
   obtain ⟨X1,hX1⟩:∃ X,(⟨#[112]⟩:ByteArray) ++ strOfNums [97 + (r:Int)] = X:=⟨_,rfl⟩
   obtain ⟨X2,hX2⟩:∃ X,strOfNums [49,46,48 + (q0:Int),48 + (q1:Int)] = X:=⟨_,rfl⟩
   have hs1:X1.size ≤ 1000:=by rw [← hX1]; simp only [ByteArray.size_append,str_size,size112,List.length_cons,List.length_nil]; omega
   have hs2:X2.size ≤ 1000:=by rw [← hX2]; simp only [str_size,List.length_cons,List.length_nil]; omega
   have HLX:=Lib.hid (lim_bare hs1 hs2)
   have hx1:=fun w=>run_string_add_sum (P:=Tryz.prog) w ⟨#[112]⟩ (strOfNums [97 + (r:Int)]) (by simp only [ByteArray.size_append,str_size,size112,maxLen,List.length_cons,List.length_nil]; omega)
   rw [hX1] at hx1
   clear hs1 hs2 hX1
   refine wp_region_held (S:=(fun _=>True)) (by kernel_rfl) ?_
   change wpAnyH _ _ _ _ _ 27 _ _ wr.drew
   have B0:=Lib.hid (hbw.out.drew)
   have A0:=Lib.hid (HA.out.on (Below.refl _ _).drew)
   clear hbw HA
   generalize wr.drew = u0 at *
   refine wpAnyH_take (i:=0) (v:=.slice pa k pc) rfl (by kernel_rfl) (by kernel_rfl) (by kernel_rfl) (fun _ _ _ h=>h) (.inl ⟨rfl,fun w _=>rfl⟩) trivial ?_
   simp only [Act.put,List.getElem_toArray,List.getElem_cons_zero,List.getElem_cons_succ,List.setIfInBounds_toArray,List.set_cons_zero,List.set_cons_succ]
   refine wpAnyH_take (i:=1) (v:=.int .i64 k) rfl (by kernel_rfl) (by kernel_rfl) (by kernel_rfl) (fun _ _ _ h=>h) (.inl ⟨rfl,fun w _=>rfl⟩) trivial ?_
   simp only [Act.put,List.getElem_toArray,List.getElem_cons_zero,List.getElem_cons_succ,List.setIfInBounds_toArray,List.set_cons_zero,List.set_cons_succ]
   refine wpAnyH_take (i:=2) (v:=.int .i64 M) rfl (by kernel_rfl) (by kernel_rfl) (by kernel_rfl) (fun _ _ _ h=>h) (.inl ⟨rfl,fun w _=>rfl⟩) trivial ?_
   simp only [Act.put,List.getElem_toArray,List.getElem_cons_zero,List.getElem_cons_succ,List.setIfInBounds_toArray,List.set_cons_zero,List.set_cons_succ]
   refine wpAnyH_take (i:=3) (v:=.int .i64 r) rfl (by kernel_rfl) (by kernel_rfl) (by kernel_rfl) (fun _ _ _ h=>h) (.inl ⟨rfl,fun w _=>by simp [execOp,go_sem,hM0,hr]⟩) trivial ?_
   simp only [Act.put,List.getElem_toArray,List.getElem_cons_zero,List.getElem_cons_succ,List.setIfInBounds_toArray,List.set_cons_zero,List.set_cons_succ]
   refine wpAnyH_take (i:=4) (v:=.int .i64 (97 + (r:Int))) rfl (by kernel_rfl) (by kernel_rfl) (by kernel_rfl) (fun _ _ _ h=>h) (.inl ⟨rfl,fun w _=>by simp [execOp,go_sem,h97]⟩) trivial ?_
   simp only [Act.put,List.getElem_toArray,List.getElem_cons_zero,List.getElem_cons_succ,List.setIfInBounds_toArray,List.set_cons_zero,List.set_cons_succ]
   refine wpAnyH_take (i:=5) (v:=.int .u8 (97 + (r:Int))) rfl (by kernel_rfl) (by kernel_rfl) (by kernel_rfl) (fun _ _ _ h=>h) (.inl ⟨rfl,fun w _=>by simp [execOp,go_sem,h97u]⟩) trivial ?_
   simp only [Act.put,List.getElem_toArray,List.getElem_cons_zero,List.getElem_cons_succ,List.setIfInBounds_toArray,List.set_cons_zero,List.set_cons_succ]
   refine wpAnyH_take (i:=9) (v:=.int .i64 k) rfl (by kernel_rfl) (by kernel_rfl) (by kernel_rfl) (fun _ _ _ h=>h) (.inl ⟨rfl,fun w _=>rfl⟩) trivial ?_
   simp only [Act.put,List.getElem_toArray,List.getElem_cons_zero,List.getElem_cons_succ,List.setIfInBounds_toArray,List.set_cons_zero,List.set_cons_succ]
   refine wpAnyH_take (i:=10) (v:=.int .i64 M) rfl (by kernel_rfl) (by kernel_rfl) (by kernel_rfl) (fun _ _ _ h=>h) (.inl ⟨rfl,fun w _=>rfl⟩) trivial ?_
   simp only [Act.put,List.getElem_toArray,List.getElem_cons_zero,List.getElem_cons_succ,List.setIfInBounds_toArray,List.set_cons_zero,List.set_cons_succ]
   refine wpAnyH_take (i:=11) (v:=.int .i64 q) rfl (by kernel_rfl) (by kernel_rfl) (by kernel_rfl) (fun _ _ _ h=>h) (.inl ⟨rfl,fun w _=>by simp [execOp,go_sem,hM0,hq]⟩) trivial ?_
   simp only [Act.put,List.getElem_toArray,List.getElem_cons_zero,List.getElem_cons_succ,List.setIfInBounds_toArray,List.set_cons_zero,List.set_cons_succ]
   refine wpAnyH_take (i:=15) (v:=.int .i64 k) rfl (by kernel_rfl) (by kernel_rfl) (by kernel_rfl) (fun _ _ _ h=>h) (.inl ⟨rfl,fun w _=>rfl⟩) trivial ?_
   simp only [Act.put,List.getElem_toArray,List.getElem_cons_zero,List.getElem_cons_succ,List.setIfInBounds_toArray,List.set_cons_zero,List.set_cons_succ]
   refine wpAnyH_take (i:=16) (v:=.int .i64 M) rfl (by kernel_rfl) (by kernel_rfl) (by kernel_rfl) (fun _ _ _ h=>h) (.inl ⟨rfl,fun w _=>rfl⟩) trivial ?_
   simp only [Act.put,List.getElem_toArray,List.getElem_cons_zero,List.getElem_cons_succ,List.setIfInBounds_toArray,List.set_cons_zero,List.set_cons_succ]
   refine wpAnyH_take (i:=17) (v:=.int .i64 q) rfl (by kernel_rfl) (by kernel_rfl) (by kernel_rfl) (fun _ _ _ h=>h) (.inl ⟨rfl,fun w _=>by simp [execOp,go_sem,hM0,hq]⟩) trivial ?_
   simp only [Act.put,List.getElem_toArray,List.getElem_cons_zero,List.getElem_cons_succ,List.setIfInBounds_toArray,List.set_cons_zero,List.set_cons_succ]
   refine wpAnyH_take (i:=12) (v:=.int .i64 q0) rfl (by kernel_rfl) (by kernel_rfl) (by kernel_rfl) (fun _ _ _ h=>h) (.inl ⟨rfl,fun w _=>by simp [execOp,go_sem,hq0]⟩) trivial ?_
   simp only [Act.put,List.getElem_toArray,List.getElem_cons_zero,List.getElem_cons_succ,List.setIfInBounds_toArray,List.set_cons_zero,List.set_cons_succ]
   refine wpAnyH_take (i:=13) (v:=.int .i64 (48 + (q0:Int))) rfl (by kernel_rfl) (by kernel_rfl) (by kernel_rfl) (fun _ _ _ h=>h) (.inl ⟨rfl,fun w _=>by simp [execOp,go_sem,h48]⟩) trivial ?_
   simp only [Act.put,List.getElem_toArray,List.getElem_cons_zero,List.getElem_cons_succ,List.setIfInBounds_toArray,List.set_cons_zero,List.set_cons_succ]
   refine wpAnyH_take (i:=14) (v:=.int .u8 (48 + (q0:Int))) rfl (by kernel_rfl) (by kernel_rfl) (by kernel_rfl) (fun _ _ _ h=>h) (.inl ⟨rfl,fun w _=>by simp [execOp,go_sem,h48u]⟩) trivial ?_
   simp only [Act.put,List.getElem_toArray,List.getElem_cons_zero,List.getElem_cons_succ,List.setIfInBounds_toArray,List.set_cons_zero,List.set_cons_succ]
   refine wpAnyH_take (i:=18) (v:=.int .i64 q1) rfl (by kernel_rfl) (by kernel_rfl) (by kernel_rfl) (fun _ _ _ h=>h) (.inl ⟨rfl,fun w _=>by simp [execOp,go_sem,hq1]⟩) trivial ?_
   simp only [Act.put,List.getElem_toArray,List.getElem_cons_zero,List.getElem_cons_succ,List.setIfInBounds_toArray,List.set_cons_zero,List.set_cons_succ]
   refine wpAnyH_take (i:=19) (v:=.int .i64 (48 + (q1:Int))) rfl (by kernel_rfl) (by kernel_rfl) (by kernel_rfl) (fun _ _ _ h=>h) (.inl ⟨rfl,fun w _=>by simp [execOp,go_sem,h49]⟩) trivial ?_
   simp only [Act.put,List.getElem_toArray,List.getElem_cons_zero,List.getElem_cons_succ,List.setIfInBounds_toArray,List.set_cons_zero,List.set_cons_succ]
   refine wpAnyH_take (i:=20) (v:=.int .u8 (48 + (q1:Int))) rfl (by kernel_rfl) (by kernel_rfl) (by kernel_rfl) (fun _ _ _ h=>h) (.inl ⟨rfl,fun w _=>by simp [execOp,go_sem,h49u]⟩) trivial ?_
   simp only [Act.put,List.getElem_toArray,List.getElem_cons_zero,List.getElem_cons_succ,List.setIfInBounds_toArray,List.set_cons_zero,List.set_cons_succ]
   refine wpAnyH_all (rs:=[6,21]) (by kernel_rfl) (by simp) ?_
   intro i hi
   simp only [List.mem_cons,List.not_mem_nil,or_false] at hi
   rcases hi with rfl | rfl
   ·skip
    refine Reg.wpOp_list rfl ?_
    have g1:=(Below.refl u0.heap.size u0).alloc (Nat.le_refl _) (.cells #[.int .u8 (97 + (r:Int))] 5)
    have i1:=Blk.Is.new u0 5 #[.int .u8 (97 + (r:Int))]
    have A1:=Lib.hid (A0.out.on g1)
    have B1:=Lib.hid (B0.out.trans (g1.mono B0.out.size))
    go_wp2_with fail
    change _ ∧ _
    refine ⟨trivial,?_⟩
    clear g1 A0 B0
    obtain ⟨p1,hp1⟩:∃ p,u0.heap.size = p:=⟨_,rfl⟩
    rw [hp1] at i1 ⊢
    generalize u0.alloc (.cells #[.int .u8 (97 + (r:Int))] 5) = u1 at *
    clear hp1
    refine wpAnyH_all (rs:=[7,21]) (by kernel_rfl) (by simp) ?_
    intro i hi
    simp only [List.mem_cons,List.not_mem_nil,or_false] at hi
    rcases hi with rfl | rfl
    ·skip
     refine Reg.wpOp_list rfl ?_
     have r1:=rowOne [97 + (r:Int)] i1 (by intro z hz; simp at hz; omega) (by simp)
     have c1:=r1.conv 1
     simp only [List.length_cons,List.length_nil,Nat.zero_add,Nat.reduceAdd] at c1
     clear r1
     go_wp2_with fail
     change _ ∧ _
     refine ⟨trivial,?_⟩
     clear c1 i1
     refine wpAnyH_take (i:=8) (v:=.string X1) rfl (by kernel_rfl) (by kernel_rfl) (by kernel_rfl) (fun _ _ _ h=>h) (.inl ⟨rfl,fun w _=>by simp [execOp,go_sem,hx1]⟩) trivial ?_
     simp only [Act.put,List.getElem_toArray,List.getElem_cons_zero,List.getElem_cons_succ,List.setIfInBounds_toArray,List.set_cons_zero,List.set_cons_succ]
     refine wpAnyH_all (rs:=[21]) (by kernel_rfl) (by simp) ?_
     intro i hi
     obtain rfl:=List.mem_singleton.1 hi
     refine Reg.wpOp_list rfl ?_
     have g2:=(Below.refl u1.heap.size u1).alloc (Nat.le_refl _) (.cells #[.int .u8 49,.int .u8 46,.int .u8 (48 + (q0:Int)),.int .u8 (48 + (q1:Int))] 5)
     have i2:=Blk.Is.new u1 5 #[.int .u8 49,.int .u8 46,.int .u8 (48 + (q0:Int)),.int .u8 (48 + (q1:Int))]
     have A2:=Lib.hid (A1.out.on g2)
     have B2:=Lib.hid (B1.out.trans (g2.mono B1.out.size))
     go_wp2_with fail
     change _ ∧ _
     refine ⟨trivial,?_⟩
     clear g2 A1 B1
     obtain ⟨p2,hp2⟩:∃ p,u1.heap.size = p:=⟨_,rfl⟩
     rw [hp2] at i2 ⊢
     generalize u1.alloc (.cells #[.int .u8 49,.int .u8 46,.int .u8 (48 + (q0:Int)),.int .u8 (48 + (q1:Int))] 5) = u2 at *
     clear hp2
     refine wpAnyH_all (rs:=[22]) (by kernel_rfl) (by simp) ?_
     intro i hi
     obtain rfl:=List.mem_singleton.1 hi
     refine Reg.wpOp_list rfl ?_
     have r2:=rowOne [49,46,48 + (q0:Int),48 + (q1:Int)] i2 (by intro z hz; simp at hz; omega) (by simp)
     have c2:=r2.conv 4
     simp only [List.length_cons,List.length_nil,Nat.zero_add,Nat.reduceAdd] at c2
     clear r2
     go_wp2_with fail
     change _ ∧ _
     refine ⟨trivial,?_⟩
     clear c2 i2
     refine wpAnyH_take (i:=23) (v:=.agg #[.string X1,.string X2,.slice none 0 0,.slice none 0 0,.slice none 0 0,.slice none 0 0,.slice none 0 0,.slice none 0 0,.bool false]) rfl (by kernel_rfl) (by kernel_rfl) (by kernel_rfl) (fun _ _ _ h=>h) (.inl ⟨rfl,fun w _=>by kernel_rfl⟩) trivial ?_
     simp only [Act.put,List.getElem_toArray,List.getElem_cons_zero,List.getElem_cons_succ,List.setIfInBounds_toArray,List.set_cons_zero,List.set_cons_succ]
     have g3:=(Below.refl u2.heap.size u2).alloc (Nat.le_refl _) (.cells #[.string X1,.string X2,.slice none 0 0,.slice none 0 0,.slice none 0 0,.slice none 0 0,.slice none 0 0,.slice none 0 0,.bool false] 31)
     have i3:=Blk.Is.new u2 31 #[.string X1,.string X2,.slice none 0 0,.slice none 0 0,.slice none 0 0,.slice none 0 0,.slice none 0 0,.slice none 0 0,.bool false]
     have A3:=A2.out.on g3
     have B3:=B2.out.trans (g3.mono B2.out.size)
     have lo:=A2.out.own
     obtain ⟨px,hpx⟩:∃ p,u2.heap.size = p:=⟨_,rfl⟩
     have hpn:px ≤ (u2.alloc (.cells #[.string X1,.string X2,.slice none 0 0,.slice none 0 0,.slice none 0 0,.slice none 0 0,.slice none 0 0,.slice none 0 0,.bool false] 31)).heap.size:=by rw [← hpx]; exact g3.size
     have hlow:∀ g,Value.ownBlock (.slice pa k pc) = some g → g < px ∨ px ≤ g:=fun g _=>by omega
     rw [hpx] at i3
     have own:=A3.own
     rw [HY.out.1] at own
     have OW:=Lib.hid own
     have AN:=Lib.hid A3
     have BN:=Lib.hid B3
     have IN:=Lib.hid i3
     clear A3 B3 own g3 i3 lo A2 B2
     refine wpAnyH_all (rs:=[24]) (by kernel_rfl) (by simp) ?_
     intro i hi
     obtain rfl:=List.mem_singleton.1 hi
     refine Reg.wpOp_list rfl ?_
     go_wp2_with fail
     change _ ∧ _
     refine ⟨trivial,?_⟩
     clear hpx
     generalize u2.alloc (.cells #[.string X1,.string X2,.slice none 0 0,.slice none 0 0,.slice none 0 0,.slice none 0 0,.slice none 0 0,.slice none 0 0,.bool false] 31) = u3 at *
     have hBn:w.heap.size ≤ u3.heap.size:=BN.out.size
     refine wpAnyH_all (rs:=[25]) (by kernel_rfl) (by simp) ?_
     intro i hi
     obtain rfl:=List.mem_singleton.1 hi
     refine Reg.wpOp_list rfl ?_
     refine append_at Tryz.underlying22 infoPk rfl (by decide) rfl (.tmp 22) (.tmp 46) rfl w.heap.size (.slice pa k pc) k rfl OW.out px 1 rfl [.string X1,.string X2,.slice none 0 0,.slice none 0 0,.slice none 0 0,.slice none 0 0,.slice none 0 0,.slice none 0 0,.bool false] rfl (fun j u hj=>IN.out.at (by rw [← Array.getElem?_toList]; exact hj)) (fun u hu=>by simp only [List.mem_cons,List.not_mem_nil,or_false] at hu; rcases hu with rfl | rfl | rfl | rfl | rfl | rfl | rfl | rfl | rfl <;> rfl) hk7 hBn ?_
     intro v' w9 h2 h3 h4
     have acc9:=AN.out.more (cs:=[.string X1,.string X2,.slice none 0 0,.slice none 0 0,.slice none 0 0,.slice none 0 0,.slice none 0 0,.slice none 0 0,.bool false]) (x:=bareP X1 X2) rfl (in_any px px fun u=>pkc_bare X1 X2 u) hpn hlow (Nat.zero_le _) (by rw [HY.out.1]; exact h2) h3 h4
     have hb9:=Own.below_grown BN.out OW.out.choose_spec h3 hBn
     obtain ⟨a9,c9,e9⟩:=acc9.shape
     rw [List.length_append,HY.out.1] at e9
     have HY9:Hid ((ys ++ [bareP X1 X2]).length = k + 1 ∧ ∀ x ∈ ys ++ [bareP X1 X2],x.Lim):=Lib.hid ⟨by rw [List.length_append,HY.out.1]; rfl,fun x hx=>by
      rcases List.mem_append.1 hx with hx | hx
      ·exact HY.out.2 x hx
      ·rw [List.mem_singleton.1 hx]; exact HLX.out⟩
     subst e9
     have AC9:=Lib.hid acc9
     have HB9:=Lib.hid hb9
     clear h2 h3 h4 acc9 hb9 AN BN IN OW HY
     go_wp2_with fail
     change _ ∧ _
     refine ⟨trivial,?_⟩
     refine wpAnyH_all (rs:=[26]) (by kernel_rfl) (by simp) ?_
     intro i hi
     obtain rfl:=List.mem_singleton.1 hi
     refine Reg.wpOp_list rfl ?_
     go_wp2_with fail
     change _ ∧ _
     refine ⟨trivial,?_⟩
     refine wpAnyH_done (by kernel_rfl) ?_ _
     go_wp2_with fail
     go_roundg g'
     case measure=>omega
     case rel=>exact ⟨k + 1,a9,c9,_,rfl,by go_num,AC9,HY9,HB9,by omega,by omega⟩
    ·skip
     refine Reg.wpOp_list rfl ?_
     have g2:=(Below.refl u1.heap.size u1).alloc (Nat.le_refl _) (.cells #[.int .u8 49,.int .u8 46,.int .u8 (48 + (q0:Int)),.int .u8 (48 + (q1:Int))] 5)
     have i2:=Blk.Is.new u1 5 #[.int .u8 49,.int .u8 46,.int .u8 (48 + (q0:Int)),.int .u8 (48 + (q1:Int))]
     have A2:=Lib.hid (A1.out.on g2)
     have B2:=Lib.hid (B1.out.trans (g2.mono B1.out.size))
     have i1:=Rl.is_on i1 g2
     go_wp2_with fail
     change _ ∧ _
     refine ⟨trivial,?_⟩
     clear g2 A1 B1
     obtain ⟨p2,hp2⟩:∃ p,u1.heap.size = p:=⟨_,rfl⟩
     rw [hp2] at i2 ⊢
     generalize u1.alloc (.cells #[.int .u8 49,.int .u8 46,.int .u8 (48 + (q0:Int)),.int .u8 (48 + (q1:Int))] 5) = u2 at *
     clear hp2
     refine wpAnyH_all (rs:=[7,22]) (by kernel_rfl) (by simp) ?_
     intro i hi
     simp only [List.mem_cons,List.not_mem_nil,or_false] at hi
     rcases hi with rfl | rfl
     ·skip
      refine Reg.wpOp_list rfl ?_
      have r1:=rowOne [97 + (r:Int)] i1 (by intro z hz; simp at hz; omega) (by simp)
      have c1:=r1.conv 1
      simp only [List.length_cons,List.length_nil,Nat.zero_add,Nat.reduceAdd] at c1
      clear r1
      go_wp2_with fail
      change _ ∧ _
      refine ⟨trivial,?_⟩
      clear c1 i1
      refine wpAnyH_take (i:=8) (v:=.string X1) rfl (by kernel_rfl) (by kernel_rfl) (by kernel_rfl) (fun _ _ _ h=>h) (.inl ⟨rfl,fun w _=>by simp [execOp,go_sem,hx1]⟩) trivial ?_
      simp only [Act.put,List.getElem_toArray,List.getElem_cons_zero,List.getElem_cons_succ,List.setIfInBounds_toArray,List.set_cons_zero,List.set_cons_succ]
      refine wpAnyH_all (rs:=[22]) (by kernel_rfl) (by simp) ?_
      intro i hi
      obtain rfl:=List.mem_singleton.1 hi
      refine Reg.wpOp_list rfl ?_
      have r2:=rowOne [49,46,48 + (q0:Int),48 + (q1:Int)] i2 (by intro z hz; simp at hz; omega) (by simp)
      have c2:=r2.conv 4
      simp only [List.length_cons,List.length_nil,Nat.zero_add,Nat.reduceAdd] at c2
      clear r2
      go_wp2_with fail
      change _ ∧ _
      refine ⟨trivial,?_⟩
      clear c2 i2
      refine wpAnyH_take (i:=23) (v:=.agg #[.string X1,.string X2,.slice none 0 0,.slice none 0 0,.slice none 0 0,.slice none 0 0,.slice none 0 0,.slice none 0 0,.bool false]) rfl (by kernel_rfl) (by kernel_rfl) (by kernel_rfl) (fun _ _ _ h=>h) (.inl ⟨rfl,fun w _=>by kernel_rfl⟩) trivial ?_
      simp only [Act.put,List.getElem_toArray,List.getElem_cons_zero,List.getElem_cons_succ,List.setIfInBounds_toArray,List.set_cons_zero,List.set_cons_succ]
      have g3:=(Below.refl u2.heap.size u2).alloc (Nat.le_refl _) (.cells #[.string X1,.string X2,.slice none 0 0,.slice none 0 0,.slice none 0 0,.slice none 0 0,.slice none 0 0,.slice none 0 0,.bool false] 31)
      have i3:=Blk.Is.new u2 31 #[.string X1,.string X2,.slice none 0 0,.slice none 0 0,.slice none 0 0,.slice none 0 0,.slice none 0 0,.slice none 0 0,.bool false]
      have A3:=A2.out.on g3
      have B3:=B2.out.trans (g3.mono B2.out.size)
      have lo:=A2.out.own
      obtain ⟨px,hpx⟩:∃ p,u2.heap.size = p:=⟨_,rfl⟩
      have hpn:px ≤ (u2.alloc (.cells #[.string X1,.string X2,.slice none 0 0,.slice none 0 0,.slice none 0 0,.slice none 0 0,.slice none 0 0,.slice none 0 0,.bool false] 31)).heap.size:=by rw [← hpx]; exact g3.size
      have hlow:∀ g,Value.ownBlock (.slice pa k pc) = some g → g < px ∨ px ≤ g:=fun g _=>by omega
      rw [hpx] at i3
      have own:=A3.own
      rw [HY.out.1] at own
      have OW:=Lib.hid own
      have AN:=Lib.hid A3
      have BN:=Lib.hid B3
      have IN:=Lib.hid i3
      clear A3 B3 own g3 i3 lo A2 B2
      refine wpAnyH_all (rs:=[24]) (by kernel_rfl) (by simp) ?_
      intro i hi
      obtain rfl:=List.mem_singleton.1 hi
      refine Reg.wpOp_list rfl ?_
      go_wp2_with fail
      change _ ∧ _
      refine ⟨trivial,?_⟩
      clear hpx
      generalize u2.alloc (.cells #[.string X1,.string X2,.slice none 0 0,.slice none 0 0,.slice none 0 0,.slice none 0 0,.slice none 0 0,.slice none 0 0,.bool false] 31) = u3 at *
      have hBn:w.heap.size ≤ u3.heap.size:=BN.out.size
      refine wpAnyH_all (rs:=[25]) (by kernel_rfl) (by simp) ?_
      intro i hi
      obtain rfl:=List.mem_singleton.1 hi
      refine Reg.wpOp_list rfl ?_
      refine append_at Tryz.underlying22 infoPk rfl (by decide) rfl (.tmp 22) (.tmp 46) rfl w.heap.size (.slice pa k pc) k rfl OW.out px 1 rfl [.string X1,.string X2,.slice none 0 0,.slice none 0 0,.slice none 0 0,.slice none 0 0,.slice none 0 0,.slice none 0 0,.bool false] rfl (fun j u hj=>IN.out.at (by rw [← Array.getElem?_toList]; exact hj)) (fun u hu=>by simp only [List.mem_cons,List.not_mem_nil,or_false] at hu; rcases hu with rfl | rfl | rfl | rfl | rfl | rfl | rfl | rfl | rfl <;> rfl) hk7 hBn ?_
      intro v' w9 h2 h3 h4
      have acc9:=AN.out.more (cs:=[.string X1,.string X2,.slice none 0 0,.slice none 0 0,.slice none 0 0,.slice none 0 0,.slice none 0 0,.slice none 0 0,.bool false]) (x:=bareP X1 X2) rfl (in_any px px fun u=>pkc_bare X1 X2 u) hpn hlow (Nat.zero_le _) (by rw [HY.out.1]; exact h2) h3 h4
      have hb9:=Own.below_grown BN.out OW.out.choose_spec h3 hBn
      obtain ⟨a9,c9,e9⟩:=acc9.shape
      rw [List.length_append,HY.out.1] at e9
      have HY9:Hid ((ys ++ [bareP X1 X2]).length = k + 1 ∧ ∀ x ∈ ys ++ [bareP X1 X2],x.Lim):=Lib.hid ⟨by rw [List.length_append,HY.out.1]; rfl,fun x hx=>by
       rcases List.mem_append.1 hx with hx | hx
       ·exact HY.out.2 x hx
       ·rw [List.mem_singleton.1 hx]; exact HLX.out⟩
      subst e9
      have AC9:=Lib.hid acc9
      have HB9:=Lib.hid hb9
      clear h2 h3 h4 acc9 hb9 AN BN IN OW HY
      go_wp2_with fail
      change _ ∧ _
      refine ⟨trivial,?_⟩
      refine wpAnyH_all (rs:=[26]) (by kernel_rfl) (by simp) ?_
      intro i hi
      obtain rfl:=List.mem_singleton.1 hi
      refine Reg.wpOp_list rfl ?_
      go_wp2_with fail
      change _ ∧ _
      refine ⟨trivial,?_⟩
      refine wpAnyH_done (by kernel_rfl) ?_ _
      go_wp2_with fail
      go_roundg g'
      case measure=>omega
      case rel=>exact ⟨k + 1,a9,c9,_,rfl,by go_num,AC9,HY9,HB9,by omega,by omega⟩
     ·skip
      refine Reg.wpOp_list rfl ?_
      have r2:=rowOne [49,46,48 + (q0:Int),48 + (q1:Int)] i2 (by intro z hz; simp at hz; omega) (by simp)
      have c2:=r2.conv 4
      simp only [List.length_cons,List.length_nil,Nat.zero_add,Nat.reduceAdd] at c2
      clear r2
      go_wp2_with fail
      change _ ∧ _
      refine ⟨trivial,?_⟩
      clear c2 i2
      refine wpAnyH_all (rs:=[7]) (by kernel_rfl) (by simp) ?_
      intro i hi
      obtain rfl:=List.mem_singleton.1 hi
      refine Reg.wpOp_list rfl ?_
      have r1:=rowOne [97 + (r:Int)] i1 (by intro z hz; simp at hz; omega) (by simp)
      have c1:=r1.conv 1
      simp only [List.length_cons,List.length_nil,Nat.zero_add,Nat.reduceAdd] at c1
      clear r1
      go_wp2_with fail
      change _ ∧ _
      refine ⟨trivial,?_⟩
      clear c1 i1
      refine wpAnyH_take (i:=8) (v:=.string X1) rfl (by kernel_rfl) (by kernel_rfl) (by kernel_rfl) (fun _ _ _ h=>h) (.inl ⟨rfl,fun w _=>by simp [execOp,go_sem,hx1]⟩) trivial ?_
      simp only [Act.put,List.getElem_toArray,List.getElem_cons_zero,List.getElem_cons_succ,List.setIfInBounds_toArray,List.set_cons_zero,List.set_cons_succ]
      refine wpAnyH_take (i:=23) (v:=.agg #[.string X1,.string X2,.slice none 0 0,.slice none 0 0,.slice none 0 0,.slice none 0 0,.slice none 0 0,.slice none 0 0,.bool false]) rfl (by kernel_rfl) (by kernel_rfl) (by kernel_rfl) (fun _ _ _ h=>h) (.inl ⟨rfl,fun w _=>by kernel_rfl⟩) trivial ?_
      simp only [Act.put,List.getElem_toArray,List.getElem_cons_zero,List.getElem_cons_succ,List.setIfInBounds_toArray,List.set_cons_zero,List.set_cons_succ]
      have g3:=(Below.refl u2.heap.size u2).alloc (Nat.le_refl _) (.cells #[.string X1,.string X2,.slice none 0 0,.slice none 0 0,.slice none 0 0,.slice none 0 0,.slice none 0 0,.slice none 0 0,.bool false] 31)
      have i3:=Blk.Is.new u2 31 #[.string X1,.string X2,.slice none 0 0,.slice none 0 0,.slice none 0 0,.slice none 0 0,.slice none 0 0,.slice none 0 0,.bool false]
      have A3:=A2.out.on g3
      have B3:=B2.out.trans (g3.mono B2.out.size)
      have lo:=A2.out.own
      obtain ⟨px,hpx⟩:∃ p,u2.heap.size = p:=⟨_,rfl⟩
      have hpn:px ≤ (u2.alloc (.cells #[.string X1,.string X2,.slice none 0 0,.slice none 0 0,.slice none 0 0,.slice none 0 0,.slice none 0 0,.slice none 0 0,.bool false] 31)).heap.size:=by rw [← hpx]; exact g3.size
      have hlow:∀ g,Value.ownBlock (.slice pa k pc) = some g → g < px ∨ px ≤ g:=fun g _=>by omega
      rw [hpx] at i3
      have own:=A3.own
      rw [HY.out.1] at own
      have OW:=Lib.hid own
      have AN:=Lib.hid A3
      have BN:=Lib.hid B3
      have IN:=Lib.hid i3
      clear A3 B3 own g3 i3 lo A2 B2
      refine wpAnyH_all (rs:=[24]) (by kernel_rfl) (by simp) ?_
      intro i hi
      obtain rfl:=List.mem_singleton.1 hi
      refine Reg.wpOp_list rfl ?_
      go_wp2_with fail
      change _ ∧ _
      refine ⟨trivial,?_⟩
      clear hpx
      generalize u2.alloc (.cells #[.string X1,.string X2,.slice none 0 0,.slice none 0 0,.slice none 0 0,.slice none 0 0,.slice none 0 0,.slice none 0 0,.bool false] 31) = u3 at *
      have hBn:w.heap.size ≤ u3.heap.size:=BN.out.size
      refine wpAnyH_all (rs:=[25]) (by kernel_rfl) (by simp) ?_
      intro i hi
      obtain rfl:=List.mem_singleton.1 hi
      refine Reg.wpOp_list rfl ?_
      refine append_at Tryz.underlying22 infoPk rfl (by decide) rfl (.tmp 22) (.tmp 46) rfl w.heap.size (.slice pa k pc) k rfl OW.out px 1 rfl [.string X1,.string X2,.slice none 0 0,.slice none 0 0,.slice none 0 0,.slice none 0 0,.slice none 0 0,.slice none 0 0,.bool false] rfl (fun j u hj=>IN.out.at (by rw [← Array.getElem?_toList]; exact hj)) (fun u hu=>by simp only [List.mem_cons,List.not_mem_nil,or_false] at hu; rcases hu with rfl | rfl | rfl | rfl | rfl | rfl | rfl | rfl | rfl <;> rfl) hk7 hBn ?_
      intro v' w9 h2 h3 h4
      have acc9:=AN.out.more (cs:=[.string X1,.string X2,.slice none 0 0,.slice none 0 0,.slice none 0 0,.slice none 0 0,.slice none 0 0,.slice none 0 0,.bool false]) (x:=bareP X1 X2) rfl (in_any px px fun u=>pkc_bare X1 X2 u) hpn hlow (Nat.zero_le _) (by rw [HY.out.1]; exact h2) h3 h4
      have hb9:=Own.below_grown BN.out OW.out.choose_spec h3 hBn
      obtain ⟨a9,c9,e9⟩:=acc9.shape
      rw [List.length_append,HY.out.1] at e9
      have HY9:Hid ((ys ++ [bareP X1 X2]).length = k + 1 ∧ ∀ x ∈ ys ++ [bareP X1 X2],x.Lim):=Lib.hid ⟨by rw [List.length_append,HY.out.1]; rfl,fun x hx=>by
       rcases List.mem_append.1 hx with hx | hx
       ·exact HY.out.2 x hx
       ·rw [List.mem_singleton.1 hx]; exact HLX.out⟩
      subst e9
      have AC9:=Lib.hid acc9
      have HB9:=Lib.hid hb9
      clear h2 h3 h4 acc9 hb9 AN BN IN OW HY
      go_wp2_with fail
      change _ ∧ _
      refine ⟨trivial,?_⟩
      refine wpAnyH_all (rs:=[26]) (by kernel_rfl) (by simp) ?_
      intro i hi
      obtain rfl:=List.mem_singleton.1 hi
      refine Reg.wpOp_list rfl ?_
      go_wp2_with fail
      change _ ∧ _
      refine ⟨trivial,?_⟩
      refine wpAnyH_done (by kernel_rfl) ?_ _
      go_wp2_with fail
      go_roundg g'
      case measure=>omega
      case rel=>exact ⟨k + 1,a9,c9,_,rfl,by go_num,AC9,HY9,HB9,by omega,by omega⟩
   ·skip
    refine Reg.wpOp_list rfl ?_
    have g1:=(Below.refl u0.heap.size u0).alloc (Nat.le_refl _) (.cells #[.int .u8 49,.int .u8 46,.int .u8 (48 + (q0:Int)),.int .u8 (48 + (q1:Int))] 5)
    have i2:=Blk.Is.new u0 5 #[.int .u8 49,.int .u8 46,.int .u8 (48 + (q0:Int)),.int .u8 (48 + (q1:Int))]
    have A1:=Lib.hid (A0.out.on g1)
    have B1:=Lib.hid (B0.out.trans (g1.mono B0.out.size))
    go_wp2_with fail
    change _ ∧ _
    refine ⟨trivial,?_⟩
    clear g1 A0 B0
    obtain ⟨p2,hp2⟩:∃ p,u0.heap.size = p:=⟨_,rfl⟩
    rw [hp2] at i2 ⊢
    generalize u0.alloc (.cells #[.int .u8 49,.int .u8 46,.int .u8 (48 + (q0:Int)),.int .u8 (48 + (q1:Int))] 5) = u1 at *
    clear hp2
    refine wpAnyH_all (rs:=[6,22]) (by kernel_rfl) (by simp) ?_
    intro i hi
    simp only [List.mem_cons,List.not_mem_nil,or_false] at hi
    rcases hi with rfl | rfl
    ·skip
     refine Reg.wpOp_list rfl ?_
     have g2:=(Below.refl u1.heap.size u1).alloc (Nat.le_refl _) (.cells #[.int .u8 (97 + (r:Int))] 5)
     have i1:=Blk.Is.new u1 5 #[.int .u8 (97 + (r:Int))]
     have A2:=Lib.hid (A1.out.on g2)
     have B2:=Lib.hid (B1.out.trans (g2.mono B1.out.size))
     have i2:=Rl.is_on i2 g2
     go_wp2_with fail
     change _ ∧ _
     refine ⟨trivial,?_⟩
     clear g2 A1 B1
     obtain ⟨p1,hp1⟩:∃ p,u1.heap.size = p:=⟨_,rfl⟩
     rw [hp1] at i1 ⊢
     generalize u1.alloc (.cells #[.int .u8 (97 + (r:Int))] 5) = u2 at *
     clear hp1
     refine wpAnyH_all (rs:=[7,22]) (by kernel_rfl) (by simp) ?_
     intro i hi
     simp only [List.mem_cons,List.not_mem_nil,or_false] at hi
     rcases hi with rfl | rfl
     ·skip
      refine Reg.wpOp_list rfl ?_
      have r1:=rowOne [97 + (r:Int)] i1 (by intro z hz; simp at hz; omega) (by simp)
      have c1:=r1.conv 1
      simp only [List.length_cons,List.length_nil,Nat.zero_add,Nat.reduceAdd] at c1
      clear r1
      go_wp2_with fail
      change _ ∧ _
      refine ⟨trivial,?_⟩
      clear c1 i1
      refine wpAnyH_take (i:=8) (v:=.string X1) rfl (by kernel_rfl) (by kernel_rfl) (by kernel_rfl) (fun _ _ _ h=>h) (.inl ⟨rfl,fun w _=>by simp [execOp,go_sem,hx1]⟩) trivial ?_
      simp only [Act.put,List.getElem_toArray,List.getElem_cons_zero,List.getElem_cons_succ,List.setIfInBounds_toArray,List.set_cons_zero,List.set_cons_succ]
      refine wpAnyH_all (rs:=[22]) (by kernel_rfl) (by simp) ?_
      intro i hi
      obtain rfl:=List.mem_singleton.1 hi
      refine Reg.wpOp_list rfl ?_
      have r2:=rowOne [49,46,48 + (q0:Int),48 + (q1:Int)] i2 (by intro z hz; simp at hz; omega) (by simp)
      have c2:=r2.conv 4
      simp only [List.length_cons,List.length_nil,Nat.zero_add,Nat.reduceAdd] at c2
      clear r2
      go_wp2_with fail
      change _ ∧ _
      refine ⟨trivial,?_⟩
      clear c2 i2
      refine wpAnyH_take (i:=23) (v:=.agg #[.string X1,.string X2,.slice none 0 0,.slice none 0 0,.slice none 0 0,.slice none 0 0,.slice none 0 0,.slice none 0 0,.bool false]) rfl (by kernel_rfl) (by kernel_rfl) (by kernel_rfl) (fun _ _ _ h=>h) (.inl ⟨rfl,fun w _=>by kernel_rfl⟩) trivial ?_
      simp only [Act.put,List.getElem_toArray,List.getElem_cons_zero,List.getElem_cons_succ,List.setIfInBounds_toArray,List.set_cons_zero,List.set_cons_succ]
      have g3:=(Below.refl u2.heap.size u2).alloc (Nat.le_refl _) (.cells #[.string X1,.string X2,.slice none 0 0,.slice none 0 0,.slice none 0 0,.slice none 0 0,.slice none 0 0,.slice none 0 0,.bool false] 31)
      have i3:=Blk.Is.new u2 31 #[.string X1,.string X2,.slice none 0 0,.slice none 0 0,.slice none 0 0,.slice none 0 0,.slice none 0 0,.slice none 0 0,.bool false]
      have A3:=A2.out.on g3
      have B3:=B2.out.trans (g3.mono B2.out.size)
      have lo:=A2.out.own
      obtain ⟨px,hpx⟩:∃ p,u2.heap.size = p:=⟨_,rfl⟩
      have hpn:px ≤ (u2.alloc (.cells #[.string X1,.string X2,.slice none 0 0,.slice none 0 0,.slice none 0 0,.slice none 0 0,.slice none 0 0,.slice none 0 0,.bool false] 31)).heap.size:=by rw [← hpx]; exact g3.size
      have hlow:∀ g,Value.ownBlock (.slice pa k pc) = some g → g < px ∨ px ≤ g:=fun g _=>by omega
      rw [hpx] at i3
      have own:=A3.own
      rw [HY.out.1] at own
      have OW:=Lib.hid own
      have AN:=Lib.hid A3
      have BN:=Lib.hid B3
      have IN:=Lib.hid i3
      clear A3 B3 own g3 i3 lo A2 B2
      refine wpAnyH_all (rs:=[24]) (by kernel_rfl) (by simp) ?_
      intro i hi
      obtain rfl:=List.mem_singleton.1 hi
      refine Reg.wpOp_list rfl ?_
      go_wp2_with fail
      change _ ∧ _
      refine ⟨trivial,?_⟩
      clear hpx
      generalize u2.alloc (.cells #[.string X1,.string X2,.slice none 0 0,.slice none 0 0,.slice none 0 0,.slice none 0 0,.slice none 0 0,.slice none 0 0,.bool false] 31) = u3 at *
      have hBn:w.heap.size ≤ u3.heap.size:=BN.out.size
      refine wpAnyH_all (rs:=[25]) (by kernel_rfl) (by simp) ?_
      intro i hi
      obtain rfl:=List.mem_singleton.1 hi
      refine Reg.wpOp_list rfl ?_
      refine append_at Tryz.underlying22 infoPk rfl (by decide) rfl (.tmp 22) (.tmp 46) rfl w.heap.size (.slice pa k pc) k rfl OW.out px 1 rfl [.string X1,.string X2,.slice none 0 0,.slice none 0 0,.slice none 0 0,.slice none 0 0,.slice none 0 0,.slice none 0 0,.bool false] rfl (fun j u hj=>IN.out.at (by rw [← Array.getElem?_toList]; exact hj)) (fun u hu=>by simp only [List.mem_cons,List.not_mem_nil,or_false] at hu; rcases hu with rfl | rfl | rfl | rfl | rfl | rfl | rfl | rfl | rfl <;> rfl) hk7 hBn ?_
      intro v' w9 h2 h3 h4
      have acc9:=AN.out.more (cs:=[.string X1,.string X2,.slice none 0 0,.slice none 0 0,.slice none 0 0,.slice none 0 0,.slice none 0 0,.slice none 0 0,.bool false]) (x:=bareP X1 X2) rfl (in_any px px fun u=>pkc_bare X1 X2 u) hpn hlow (Nat.zero_le _) (by rw [HY.out.1]; exact h2) h3 h4
      have hb9:=Own.below_grown BN.out OW.out.choose_spec h3 hBn
      obtain ⟨a9,c9,e9⟩:=acc9.shape
      rw [List.length_append,HY.out.1] at e9
      have HY9:Hid ((ys ++ [bareP X1 X2]).length = k + 1 ∧ ∀ x ∈ ys ++ [bareP X1 X2],x.Lim):=Lib.hid ⟨by rw [List.length_append,HY.out.1]; rfl,fun x hx=>by
       rcases List.mem_append.1 hx with hx | hx
       ·exact HY.out.2 x hx
       ·rw [List.mem_singleton.1 hx]; exact HLX.out⟩
      subst e9
      have AC9:=Lib.hid acc9
      have HB9:=Lib.hid hb9
      clear h2 h3 h4 acc9 hb9 AN BN IN OW HY
      go_wp2_with fail
      change _ ∧ _
      refine ⟨trivial,?_⟩
      refine wpAnyH_all (rs:=[26]) (by kernel_rfl) (by simp) ?_
      intro i hi
      obtain rfl:=List.mem_singleton.1 hi
      refine Reg.wpOp_list rfl ?_
      go_wp2_with fail
      change _ ∧ _
      refine ⟨trivial,?_⟩
      refine wpAnyH_done (by kernel_rfl) ?_ _
      go_wp2_with fail
      go_roundg g'
      case measure=>omega
      case rel=>exact ⟨k + 1,a9,c9,_,rfl,by go_num,AC9,HY9,HB9,by omega,by omega⟩
     ·skip
      refine Reg.wpOp_list rfl ?_
      have r2:=rowOne [49,46,48 + (q0:Int),48 + (q1:Int)] i2 (by intro z hz; simp at hz; omega) (by simp)
      have c2:=r2.conv 4
      simp only [List.length_cons,List.length_nil,Nat.zero_add,Nat.reduceAdd] at c2
      clear r2
      go_wp2_with fail
      change _ ∧ _
      refine ⟨trivial,?_⟩
      clear c2 i2
      refine wpAnyH_all (rs:=[7]) (by kernel_rfl) (by simp) ?_
      intro i hi
      obtain rfl:=List.mem_singleton.1 hi
      refine Reg.wpOp_list rfl ?_
      have r1:=rowOne [97 + (r:Int)] i1 (by intro z hz; simp at hz; omega) (by simp)
      have c1:=r1.conv 1
      simp only [List.length_cons,List.length_nil,Nat.zero_add,Nat.reduceAdd] at c1
      clear r1
      go_wp2_with fail
      change _ ∧ _
      refine ⟨trivial,?_⟩
      clear c1 i1
      refine wpAnyH_take (i:=8) (v:=.string X1) rfl (by kernel_rfl) (by kernel_rfl) (by kernel_rfl) (fun _ _ _ h=>h) (.inl ⟨rfl,fun w _=>by simp [execOp,go_sem,hx1]⟩) trivial ?_
      simp only [Act.put,List.getElem_toArray,List.getElem_cons_zero,List.getElem_cons_succ,List.setIfInBounds_toArray,List.set_cons_zero,List.set_cons_succ]
      refine wpAnyH_take (i:=23) (v:=.agg #[.string X1,.string X2,.slice none 0 0,.slice none 0 0,.slice none 0 0,.slice none 0 0,.slice none 0 0,.slice none 0 0,.bool false]) rfl (by kernel_rfl) (by kernel_rfl) (by kernel_rfl) (fun _ _ _ h=>h) (.inl ⟨rfl,fun w _=>by kernel_rfl⟩) trivial ?_
      simp only [Act.put,List.getElem_toArray,List.getElem_cons_zero,List.getElem_cons_succ,List.setIfInBounds_toArray,List.set_cons_zero,List.set_cons_succ]
      have g3:=(Below.refl u2.heap.size u2).alloc (Nat.le_refl _) (.cells #[.string X1,.string X2,.slice none 0 0,.slice none 0 0,.slice none 0 0,.slice none 0 0,.slice none 0 0,.slice none 0 0,.bool false] 31)
      have i3:=Blk.Is.new u2 31 #[.string X1,.string X2,.slice none 0 0,.slice none 0 0,.slice none 0 0,.slice none 0 0,.slice none 0 0,.slice none 0 0,.bool false]
      have A3:=A2.out.on g3
      have B3:=B2.out.trans (g3.mono B2.out.size)
      have lo:=A2.out.own
      obtain ⟨px,hpx⟩:∃ p,u2.heap.size = p:=⟨_,rfl⟩
      have hpn:px ≤ (u2.alloc (.cells #[.string X1,.string X2,.slice none 0 0,.slice none 0 0,.slice none 0 0,.slice none 0 0,.slice none 0 0,.slice none 0 0,.bool false] 31)).heap.size:=by rw [← hpx]; exact g3.size
      have hlow:∀ g,Value.ownBlock (.slice pa k pc) = some g → g < px ∨ px ≤ g:=fun g _=>by omega
      rw [hpx] at i3
      have own:=A3.own
      rw [HY.out.1] at own
      have OW:=Lib.hid own
      have AN:=Lib.hid A3
      have BN:=Lib.hid B3
      have IN:=Lib.hid i3
      clear A3 B3 own g3 i3 lo A2 B2
      refine wpAnyH_all (rs:=[24]) (by kernel_rfl) (by simp) ?_
      intro i hi
      obtain rfl:=List.mem_singleton.1 hi
      refine Reg.wpOp_list rfl ?_
      go_wp2_with fail
      change _ ∧ _
      refine ⟨trivial,?_⟩
      clear hpx
      generalize u2.alloc (.cells #[.string X1,.string X2,.slice none 0 0,.slice none 0 0,.slice none 0 0,.slice none 0 0,.slice none 0 0,.slice none 0 0,.bool false] 31) = u3 at *
      have hBn:w.heap.size ≤ u3.heap.size:=BN.out.size
      refine wpAnyH_all (rs:=[25]) (by kernel_rfl) (by simp) ?_
      intro i hi
      obtain rfl:=List.mem_singleton.1 hi
      refine Reg.wpOp_list rfl ?_
      refine append_at Tryz.underlying22 infoPk rfl (by decide) rfl (.tmp 22) (.tmp 46) rfl w.heap.size (.slice pa k pc) k rfl OW.out px 1 rfl [.string X1,.string X2,.slice none 0 0,.slice none 0 0,.slice none 0 0,.slice none 0 0,.slice none 0 0,.slice none 0 0,.bool false] rfl (fun j u hj=>IN.out.at (by rw [← Array.getElem?_toList]; exact hj)) (fun u hu=>by simp only [List.mem_cons,List.not_mem_nil,or_false] at hu; rcases hu with rfl | rfl | rfl | rfl | rfl | rfl | rfl | rfl | rfl <;> rfl) hk7 hBn ?_
      intro v' w9 h2 h3 h4
      have acc9:=AN.out.more (cs:=[.string X1,.string X2,.slice none 0 0,.slice none 0 0,.slice none 0 0,.slice none 0 0,.slice none 0 0,.slice none 0 0,.bool false]) (x:=bareP X1 X2) rfl (in_any px px fun u=>pkc_bare X1 X2 u) hpn hlow (Nat.zero_le _) (by rw [HY.out.1]; exact h2) h3 h4
      have hb9:=Own.below_grown BN.out OW.out.choose_spec h3 hBn
      obtain ⟨a9,c9,e9⟩:=acc9.shape
      rw [List.length_append,HY.out.1] at e9
      have HY9:Hid ((ys ++ [bareP X1 X2]).length = k + 1 ∧ ∀ x ∈ ys ++ [bareP X1 X2],x.Lim):=Lib.hid ⟨by rw [List.length_append,HY.out.1]; rfl,fun x hx=>by
       rcases List.mem_append.1 hx with hx | hx
       ·exact HY.out.2 x hx
       ·rw [List.mem_singleton.1 hx]; exact HLX.out⟩
      subst e9
      have AC9:=Lib.hid acc9
      have HB9:=Lib.hid hb9
      clear h2 h3 h4 acc9 hb9 AN BN IN OW HY
      go_wp2_with fail
      change _ ∧ _
      refine ⟨trivial,?_⟩
      refine wpAnyH_all (rs:=[26]) (by kernel_rfl) (by simp) ?_
      intro i hi
      obtain rfl:=List.mem_singleton.1 hi
      refine Reg.wpOp_list rfl ?_
      go_wp2_with fail
      change _ ∧ _
      refine ⟨trivial,?_⟩
      refine wpAnyH_done (by kernel_rfl) ?_ _
      go_wp2_with fail
      go_roundg g'
      case measure=>omega
      case rel=>exact ⟨k + 1,a9,c9,_,rfl,by go_num,AC9,HY9,HB9,by omega,by omega⟩
    ·skip
     refine Reg.wpOp_list rfl ?_
     have r2:=rowOne [49,46,48 + (q0:Int),48 + (q1:Int)] i2 (by intro z hz; simp at hz; omega) (by simp)
     have c2:=r2.conv 4
     simp only [List.length_cons,List.length_nil,Nat.zero_add,Nat.reduceAdd] at c2
     clear r2
     go_wp2_with fail
     change _ ∧ _
     refine ⟨trivial,?_⟩
     clear c2 i2
     refine wpAnyH_all (rs:=[6]) (by kernel_rfl) (by simp) ?_
     intro i hi
     obtain rfl:=List.mem_singleton.1 hi
     refine Reg.wpOp_list rfl ?_
     have g2:=(Below.refl u1.heap.size u1).alloc (Nat.le_refl _) (.cells #[.int .u8 (97 + (r:Int))] 5)
     have i1:=Blk.Is.new u1 5 #[.int .u8 (97 + (r:Int))]
     have A2:=Lib.hid (A1.out.on g2)
     have B2:=Lib.hid (B1.out.trans (g2.mono B1.out.size))
     go_wp2_with fail
     change _ ∧ _
     refine ⟨trivial,?_⟩
     clear g2 A1 B1
     obtain ⟨p1,hp1⟩:∃ p,u1.heap.size = p:=⟨_,rfl⟩
     rw [hp1] at i1 ⊢
     generalize u1.alloc (.cells #[.int .u8 (97 + (r:Int))] 5) = u2 at *
     clear hp1
     refine wpAnyH_all (rs:=[7]) (by kernel_rfl) (by simp) ?_
     intro i hi
     obtain rfl:=List.mem_singleton.1 hi
     refine Reg.wpOp_list rfl ?_
     have r1:=rowOne [97 + (r:Int)] i1 (by intro z hz; simp at hz; omega) (by simp)
     have c1:=r1.conv 1
     simp only [List.length_cons,List.length_nil,Nat.zero_add,Nat.reduceAdd] at c1
     clear r1
     go_wp2_with fail
     change _ ∧ _
     refine ⟨trivial,?_⟩
     clear c1 i1
     refine wpAnyH_take (i:=8) (v:=.string X1) rfl (by kernel_rfl) (by kernel_rfl) (by kernel_rfl) (fun _ _ _ h=>h) (.inl ⟨rfl,fun w _=>by simp [execOp,go_sem,hx1]⟩) trivial ?_
     simp only [Act.put,List.getElem_toArray,List.getElem_cons_zero,List.getElem_cons_succ,List.setIfInBounds_toArray,List.set_cons_zero,List.set_cons_succ]
     refine wpAnyH_take (i:=23) (v:=.agg #[.string X1,.string X2,.slice none 0 0,.slice none 0 0,.slice none 0 0,.slice none 0 0,.slice none 0 0,.slice none 0 0,.bool false]) rfl (by kernel_rfl) (by kernel_rfl) (by kernel_rfl) (fun _ _ _ h=>h) (.inl ⟨rfl,fun w _=>by kernel_rfl⟩) trivial ?_
     simp only [Act.put,List.getElem_toArray,List.getElem_cons_zero,List.getElem_cons_succ,List.setIfInBounds_toArray,List.set_cons_zero,List.set_cons_succ]
     have g3:=(Below.refl u2.heap.size u2).alloc (Nat.le_refl _) (.cells #[.string X1,.string X2,.slice none 0 0,.slice none 0 0,.slice none 0 0,.slice none 0 0,.slice none 0 0,.slice none 0 0,.bool false] 31)
     have i3:=Blk.Is.new u2 31 #[.string X1,.string X2,.slice none 0 0,.slice none 0 0,.slice none 0 0,.slice none 0 0,.slice none 0 0,.slice none 0 0,.bool false]
     have A3:=A2.out.on g3
     have B3:=B2.out.trans (g3.mono B2.out.size)
     have lo:=A2.out.own
     obtain ⟨px,hpx⟩:∃ p,u2.heap.size = p:=⟨_,rfl⟩
     have hpn:px ≤ (u2.alloc (.cells #[.string X1,.string X2,.slice none 0 0,.slice none 0 0,.slice none 0 0,.slice none 0 0,.slice none 0 0,.slice none 0 0,.bool false] 31)).heap.size:=by rw [← hpx]; exact g3.size
     have hlow:∀ g,Value.ownBlock (.slice pa k pc) = some g → g < px ∨ px ≤ g:=fun g _=>by omega
     rw [hpx] at i3
     have own:=A3.own
     rw [HY.out.1] at own
     have OW:=Lib.hid own
     have AN:=Lib.hid A3
     have BN:=Lib.hid B3
     have IN:=Lib.hid i3
     clear A3 B3 own g3 i3 lo A2 B2
     refine wpAnyH_all (rs:=[24]) (by kernel_rfl) (by simp) ?_
     intro i hi
     obtain rfl:=List.mem_singleton.1 hi
     refine Reg.wpOp_list rfl ?_
     go_wp2_with fail
     change _ ∧ _
     refine ⟨trivial,?_⟩
     clear hpx
     generalize u2.alloc (.cells #[.string X1,.string X2,.slice none 0 0,.slice none 0 0,.slice none 0 0,.slice none 0 0,.slice none 0 0,.slice none 0 0,.bool false] 31) = u3 at *
     have hBn:w.heap.size ≤ u3.heap.size:=BN.out.size
     refine wpAnyH_all (rs:=[25]) (by kernel_rfl) (by simp) ?_
     intro i hi
     obtain rfl:=List.mem_singleton.1 hi
     refine Reg.wpOp_list rfl ?_
     refine append_at Tryz.underlying22 infoPk rfl (by decide) rfl (.tmp 22) (.tmp 46) rfl w.heap.size (.slice pa k pc) k rfl OW.out px 1 rfl [.string X1,.string X2,.slice none 0 0,.slice none 0 0,.slice none 0 0,.slice none 0 0,.slice none 0 0,.slice none 0 0,.bool false] rfl (fun j u hj=>IN.out.at (by rw [← Array.getElem?_toList]; exact hj)) (fun u hu=>by simp only [List.mem_cons,List.not_mem_nil,or_false] at hu; rcases hu with rfl | rfl | rfl | rfl | rfl | rfl | rfl | rfl | rfl <;> rfl) hk7 hBn ?_
     intro v' w9 h2 h3 h4
     have acc9:=AN.out.more (cs:=[.string X1,.string X2,.slice none 0 0,.slice none 0 0,.slice none 0 0,.slice none 0 0,.slice none 0 0,.slice none 0 0,.bool false]) (x:=bareP X1 X2) rfl (in_any px px fun u=>pkc_bare X1 X2 u) hpn hlow (Nat.zero_le _) (by rw [HY.out.1]; exact h2) h3 h4
     have hb9:=Own.below_grown BN.out OW.out.choose_spec h3 hBn
     obtain ⟨a9,c9,e9⟩:=acc9.shape
     rw [List.length_append,HY.out.1] at e9
     have HY9:Hid ((ys ++ [bareP X1 X2]).length = k + 1 ∧ ∀ x ∈ ys ++ [bareP X1 X2],x.Lim):=Lib.hid ⟨by rw [List.length_append,HY.out.1]; rfl,fun x hx=>by
      rcases List.mem_append.1 hx with hx | hx
      ·exact HY.out.2 x hx
      ·rw [List.mem_singleton.1 hx]; exact HLX.out⟩
     subst e9
     have AC9:=Lib.hid acc9
     have HB9:=Lib.hid hb9
     clear h2 h3 h4 acc9 hb9 AN BN IN OW HY
     go_wp2_with fail
     change _ ∧ _
     refine ⟨trivial,?_⟩
     refine wpAnyH_all (rs:=[26]) (by kernel_rfl) (by simp) ?_
     intro i hi
     obtain rfl:=List.mem_singleton.1 hi
     refine Reg.wpOp_list rfl ?_
     go_wp2_with fail
     change _ ∧ _
     refine ⟨trivial,?_⟩
     refine wpAnyH_done (by kernel_rfl) ?_ _
     go_wp2_with fail
     go_roundg g'
     case measure=>omega
     case rel=>exact ⟨k + 1,a9,c9,_,rfl,by go_num,AC9,HY9,HB9,by omega,by omega⟩
  ·have hge:¬ (k:Int) < (N:Int):=by omega
   obtain rfl:k = N:=by omega
   have hl:Pks wr (.slice pa k pc) ys:=by
    have h1:=Acc.slc nPk HA.out (by rw [HY.out.1]; omega)
    exact h1
   have HL:=Lib.hid hl
   have HLL:=Lib.hid HY.out.2
   have HLN:=Lib.hid HY.out.1
   clear hl HA HY hfu hkn hlt hge
   rename World=>w1
   go_wp2_with fail
   go_loopg [6,50] M (fun gf s6 s50 wx=>∃ (j:Nat) (ea:Option Addr) (ec:Nat) (es:List En),s6 = .slice ea j ec ∧ s50 = .int .i64 j ∧ Hid (Acc EnC 11 68 w1.heap.size 0 wx (.slice ea j ec) es) ∧ Hid (es.length = j ∧ ∀ x ∈ es,x.pk.Lim) ∧ Hid (Below w1.heap.size w1 wx) ∧ j ≤ M ∧ M ≤ j + gf)
   case atStart=>exact ⟨0,none,0,[],rfl,rfl,Lib.hid (Acc.nil _ _ _ _ _ _),Lib.hid ⟨rfl,fun x hx=>by cases hx⟩,Lib.hid (Below.refl _ _),by omega,by omega⟩
   case round =>
    obtain ⟨j,ea,ec,es,rfl,rfl,HA,HY,HB,hjm,hfj⟩:=hrel
    by_cases hlj:j < M
    ·obtain ⟨g',rfl⟩:∃ g',gk = g' + 1:=⟨gk - 1,by omega⟩
     have hlj':(j:Int) < (M:Int):=by omega
     have hj0:(0:Int) ≤ j:=by omega
     have hj7:j + 1 ≤ 70000:=by omega
     have h97:IntKind.i64.wrap (97 + (j:Int)) = 97 + (j:Int):=IntWalk.i64_in _ (by omega)
     have h97u:IntKind.u8.wrap (97 + (j:Int)) = 97 + (j:Int):=IntWalk.u8_in _ (by omega)
     obtain ⟨X1,hX1⟩:∃ X,(⟨#[112]⟩:ByteArray) ++ strOfNums [97 + (j:Int)] = X:=⟨_,rfl⟩
     have hs1:X1.size ≤ 1000:=by rw [← hX1]; simp only [ByteArray.size_append,str_size,size112,List.length_cons,List.length_nil]; omega
     have HLX:=Lib.hid (lim_bare hs1 (show (⟨#[49]⟩:ByteArray).size ≤ 1000 by decide))
     have hx1:=fun w=>run_string_add_sum (P:=Tryz.prog) w ⟨#[112]⟩ (strOfNums [97 + (j:Int)]) (by simp only [ByteArray.size_append,str_size,size112,maxLen,List.length_cons,List.length_nil]; omega)
     rw [hX1] at hx1
     have g1:=(Below.refl wr.heap.size wr).alloc (Nat.le_refl _) (.cells #[.int .u8 (97 + (j:Int))] 5)
     have i1:=Blk.Is.new wr 5 #[.int .u8 (97 + (j:Int))]
     obtain ⟨u1,hu1⟩:∃ u,wr.alloc (.cells #[.int .u8 (97 + (j:Int))] 5) = u:=⟨_,rfl⟩
     rw [hu1] at g1 i1
     have r1:=rowOne [97 + (j:Int)] i1 (by intro z hz; simp at hz; omega) (by simp)
     have c1:=r1.conv 1
     simp only [List.length_cons,List.length_nil,Nat.zero_add,Nat.reduceAdd] at c1
     have g2:=(Below.refl u1.heap.size u1).alloc (Nat.le_refl _) (.cells #[.string X1,.string ⟨#[49]⟩,.slice none 0 0,.slice none 0 0,.slice none 0 0,.slice none 0 0,.slice none 0 0,.slice none 0 0,.bool false,.bool false,.bool false] 68)
     have i2:=Blk.Is.new u1 68 #[.string X1,.string ⟨#[49]⟩,.slice none 0 0,.slice none 0 0,.slice none 0 0,.slice none 0 0,.slice none 0 0,.slice none 0 0,.bool false,.bool false,.bool false]
     obtain ⟨u2,hu2⟩:∃ u,u1.alloc (.cells #[.string X1,.string ⟨#[49]⟩,.slice none 0 0,.slice none 0 0,.slice none 0 0,.slice none 0 0,.slice none 0 0,.slice none 0 0,.bool false,.bool false,.bool false] 68) = u:=⟨_,rfl⟩
     rw [hu2] at g2 i2
     have g12:=g1.trans (g2.mono g1.size)
     have hA2:=HA.out.on g12
     have hB2:=HB.out.trans (g12.mono HB.out.size)
     have own:=hA2.own
     rw [HY.out.1] at own
     obtain ⟨px,hpx⟩:∃ p,u1.heap.size = p:=⟨_,rfl⟩
     rw [hpx] at i2
     have hpn:px ≤ u2.heap.size:=by rw [← hpx]; exact g2.size
     have hlow:∀ g,Value.ownBlock (.slice ea j ec) = some g → g < px ∨ px ≤ g:=fun g _=>by omega
     have hBn:w1.heap.size ≤ u2.heap.size:=hB2.size
     have OW:=Lib.hid own
     have AN:=Lib.hid hA2
     have BN:=Lib.hid hB2
     have IN:=Lib.hid i2
     have HU2:=Lib.hid hu2
     clear hX1 hs1 g1 i1 r1 g2 i2 g12 hA2 hB2 own hu2 HA HB
     go_wp2_with (first | (at_builtin; (try rw [HU2.out]); refine append_at Tryz.underlying23 infoEn rfl (by decide) rfl (.tmp 53) (.tmp 62) rfl w1.heap.size (.slice ea j ec) j rfl OW.out px 1 rfl [.string X1,.string ⟨#[49]⟩,.slice none 0 0,.slice none 0 0,.slice none 0 0,.slice none 0 0,.slice none 0 0,.slice none 0 0,.bool false,.bool false,.bool false] rfl (fun q u hq=>IN.out.at (by rw [← Array.getElem?_toList]; exact hq)) (fun u hu=>by simp only [List.mem_cons,List.not_mem_nil,or_false] at hu; rcases hu with rfl | rfl | rfl | rfl | rfl | rfl | rfl | rfl | rfl | rfl | rfl <;> rfl) hj7 hBn ?_; intro v' w9 h2 h3 h4; have acc9:=AN.out.more (cs:=[.string X1,.string ⟨#[49]⟩,.slice none 0 0,.slice none 0 0,.slice none 0 0,.slice none 0 0,.slice none 0 0,.slice none 0 0,.bool false,.bool false,.bool false]) (x:=⟨bareP X1 ⟨#[49]⟩,false,false⟩) rfl (in_any px px fun u=>enc_bare X1 ⟨#[49]⟩ u) hpn hlow (Nat.zero_le _) (by rw [HY.out.1]; exact h2) h3 h4; have hb9:=Own.below_grown BN.out OW.out.choose_spec h3 hBn; obtain ⟨a9,c9,e9⟩:=acc9.shape; rw [List.length_append,HY.out.1] at e9; subst e9; have AC9:=Lib.hid acc9; have HB9:=Lib.hid hb9; clear h2 h3 h4 acc9 hb9 AN BN IN OW) | fail)
     have HY9:Hid ((es ++ [(⟨bareP X1 ⟨#[49]⟩,false,false⟩:En)]).length = j + 1 ∧ ∀ x ∈ es ++ [(⟨bareP X1 ⟨#[49]⟩,false,false⟩:En)],x.pk.Lim):=Lib.hid ⟨by rw [List.length_append,HY.out.1]; rfl,fun x hx=>by
      rcases List.mem_append.1 hx with hx | hx
      ·exact HY.out.2 x hx
      ·rw [List.mem_singleton.1 hx]; exact HLX.out⟩
     clear HY c1 hx1
     go_roundg g'
     case measure=>omega
     case rel=>exact ⟨j + 1,a9,c9,_,rfl,by go_num,AC9,HY9,HB9,by omega,by omega⟩
    ·have hge:¬ (j:Int) < (M:Int):=by omega
     obtain rfl:j = M:=by omega
     have he:Ens wr (.slice ea j ec) es:=by
      have h1:=Acc.slc nEn HA.out (by rw [HY.out.1]; omega)
      exact h1
     have HE:=Lib.hid he
     have HEL:=Lib.hid HY.out.2
     have B0:=Lib.hid (hbw.out.trans (HB.out.mono hbw.out.size))
     have HB1:=Lib.hid HB.out
     clear he HA HY HB hbw
     have cm:=mayAll_any _ ys wr (HL.out.below HB1.out) HLL.out (HG.out.on B0.out).v
     obtain ⟨MM,hMM2⟩:∃ M,mayAll ys = M:=⟨_,rfl⟩
     rw [hMM2] at cm
     have HM:=Lib.hid hMM2
     have hmm:(MM == MM) = true:=by simp
     clear hMM2
     go_wp2_with fail
     refine cm.mono ?_
     rintro e u1 ⟨rfl,q1⟩
     have B1:=Lib.hid (B0.out.trans (q1.mono B0.out.size))
     have K1:=Lib.hid q1
     have cy:=ymayAll_any _ ys u1 ((HL.out.below HB1.out).below q1) HLL.out
     rw [HM.out] at cy
     clear cm q1 B0
     go_wp2_with fail
     refine cy.mono ?_
     rintro e u2 ⟨rfl,q2⟩
     have B2:=Lib.hid (B1.out.trans (q2.mono B1.out.size))
     have K2:=Lib.hid (K1.out.trans (q2.mono K1.out.size))
     have ce:=mayEntries_any _ es u2 (HE.out.below K2.out) HEL.out (HG.out.on B2.out).v
     obtain ⟨F,hF⟩:∃ F,mayEn es = F:=⟨_,rfl⟩
     rw [hF] at ce
     have HF:=Lib.hid hF
     have hff:(F == F) = true:=by simp
     clear hF cy q2 B1 K1
     go_wp2_with fail
     refine ce.mono ?_
     rintro e u3 ⟨rfl,q3⟩
     have B3:=Lib.hid (B2.out.trans (q3.mono B2.out.size))
     have K3:=Lib.hid (K2.out.trans (q3.mono K2.out.size))
     have cf:=ymayEntries_any _ es u3 (HE.out.below K3.out) HEL.out
     rw [HF.out] at cf
     clear ce q3 B2 K2
     go_wp2_with fail
     refine cf.mono ?_
     rintro e u4 ⟨rfl,q4⟩
     have B4:=Lib.hid (B3.out.trans (q4.mono B3.out.size))
     have ca:=awake_any u4 (HG.out.on B4.out)
     clear cf q4 B3 K3
     go_wp2_with fail
     refine ca.mono ?_
     rintro e u5 ⟨rfl,q5⟩
     have hb:=B4.out.trans (q5.mono B4.out.size)
     go_wp2_with fail
     go_ret
     exact ⟨rfl,hb⟩
end Rc
end Go.Proofs.YthmpepnikmdjpaaGreatDoor

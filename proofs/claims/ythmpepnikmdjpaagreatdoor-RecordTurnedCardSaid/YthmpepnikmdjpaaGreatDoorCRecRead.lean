/-
read: what the fields of a stanza have.
-/
import Derived.Test.YthmpepnikmdjpaaGreatDoorCRecPkg
import Derived.Test.YthmpepnikmdjpaaGreatDoorCValRead
import Derived.Test.YthmpepnikmdjpaaGreatDoorCRecLine
import Derived.Test.YthmpepnikmdjpaaGreatDoorCRecFld
import Derived.Deep.CutRange
namespace Go.Proofs.YthmpepnikmdjpaaGreatDoor
open Go.RowKit
set_option linter.unusedSimpArgs false
set_option linter.unusedVariables false
namespace Rc
open Ver (Bs li li_len S S_self S_size S_li)
open Rl (At Pv Ats Pvs Clss Slc LimA LimP LimC Vars)
open Va (Hi Vl VAt wrT rd knd Rdr)
open Stz (Fld Sz sameB sameS foldL Flds FldAt)
structure Gl (w:World):Prop where
 v:Vars w
 n:Nms w
 u:Lib.Utf8Tabs 3 4 w
theorem Gl.on {w w':World} (h:Gl w) (hb:Below w.heap.size w w'):Gl w':=⟨h.v.on hb,h.n.on hb,Txt.tabs_below h.u hb (Txt.tabs_lt h.u)⟩
structure Field (f:FuncId) (rf:ByteArray → ByteArray → Except Int Vl):Prop where
 call:∀ (args:Array Value) (w:World),(callFunc f args).run Tryz.prog w = .ok (.enter f args) w
 con:∀ nm t w,nm.size ≤ 140737488355328 → t.size ≤ 140737488355328 → Gl w → Calls Tryz.prog f #[.string nm,.string t] w fun e w'=>Rdr (rf nm t) w e w'
 small:∀ nm t x,rf nm t = .ok x → x.Small
 ne:∀ nm t e,rf nm t = .error e → e ≠ 0
theorem four_new (w:World) (T1 T2 T3 T4:TypeId) (C1 C2 C3 C4:Array Value):∃ W,(((w.alloc (.cells C1 T1)).alloc (.cells C2 T2)).alloc (.cells C3 T3)).alloc (.cells C4 T4) = W ∧ Below w.heap.size w W ∧ W.heap.size = w.heap.size + 4 ∧ Blk.Is W w.heap.size T1 C1 ∧ Blk.Is W (w.heap.size + 1) T2 C2 ∧ Blk.Is W (w.heap.size + 1 + 1) T3 C3 ∧ Blk.Is W (w.heap.size + 1 + 1 + 1) T4 C4:=by
 have s1:(w.alloc (.cells C1 T1)).heap.size = w.heap.size + 1:=by simp
 have s2:((w.alloc (.cells C1 T1)).alloc (.cells C2 T2)).heap.size = w.heap.size + 1 + 1:=by simp
 have s3:(((w.alloc (.cells C1 T1)).alloc (.cells C2 T2)).alloc (.cells C3 T3)).heap.size = w.heap.size + 1 + 1 + 1:=by simp
 have i1:=Blk.Is.new w T1 C1
 have i2:=Blk.Is.new (w.alloc (.cells C1 T1)) T2 C2
 have i3:=Blk.Is.new ((w.alloc (.cells C1 T1)).alloc (.cells C2 T2)) T3 C3
 have i4:=Blk.Is.new (((w.alloc (.cells C1 T1)).alloc (.cells C2 T2)).alloc (.cells C3 T3)) T4 C4
 rw [s1] at i2
 rw [s2] at i3
 rw [s3] at i4
 exact ⟨_,rfl,((((Below.refl _ _).alloc (Nat.le_refl _) _).alloc (by omega) _).alloc (by omega) _).alloc (by omega) _,by simp,((i1.alloc _).alloc _).alloc _,(i2.alloc _).alloc _,i3.alloc _,i4⟩
def nils:Array Value:=#[.nilIface,.nilIface,.nilIface,.nilIface,.nilIface,.nilIface,.nilIface,.nilIface,.nilIface,.nilIface,.nilIface]
theorem vs_nils (B:Nat) (w:World):Vs B w nils no:=by
 refine ⟨rfl,fun i hi=>⟨.nilIface,?_,rfl⟩⟩
 match i,hi with
 | 0,_=>rfl
 | 1,_=>rfl
 | 2,_=>rfl
 | 3,_=>rfl
 | 4,_=>rfl
 | 5,_=>rfl
 | 6,_=>rfl
 | 7,_=>rfl
 | 8,_=>rfl
 | 9,_=>rfl
 | 10,_=>rfl
theorem small_no:SmallV no:=fun i _=>⟨⟨by simp [no,Va.Vl.cls],fun c hc=>by cases hc⟩,by simp [no,Va.Vl.ats],by simp [no,Va.Vl.pvs]⟩
theorem small_keep {xs:Vls} {x:Vl} (nm:Bs) (h:SmallV xs) (hx:x.Small):SmallV (keep xs nm x):=fun i hi=>by
 unfold keep keepN
 split
 ·exact hx
 ·exact h i hi
def RdP (o:Except (Int × Int) Vls) (w:World) (e:Ending) (w':World):Prop:=∃ cs xs er ln,e = .returned (.tuple #[.agg cs,.agg #[.int .i64 er,.int .i64 ln]]) ∧ Vs w.heap.size w' cs xs ∧ SmallV xs ∧ Below w.heap.size w w' ∧ match o with
 | .error p=>er = p.1 ∧ ln = p.2 ∧ xs = no
 | .ok ys=>er = 0 ∧ ln = 0 ∧ xs = ys
theorem one_all {cs:Array Value} {B:Nat} {w:World} {xs:Vls} (h:Vs B w cs xs):cs.all (·.oneCell') = true:=by
 rw [Array.all_eq_true_iff_forall_mem]
 intro v hv
 obtain ⟨i,hi,rfl⟩:=Array.mem_iff_getElem.1 hv
 obtain ⟨u,h1,h2⟩:=h.at_ i (by rw [← h.len]; exact hi)
 rw [Array.getElem?_eq_getElem hi] at h1
 cases h1
 exact h2.one
theorem eleven {cs:Array Value} (h:cs.size = 11):∃ v0 v1 v2 v3 v4 v5 v6 v7 v8 v9 v10,cs = #[v0,v1,v2,v3,v4,v5,v6,v7,v8,v9,v10]:=by
 obtain ⟨l⟩:=cs
 match l,h with
 | [v0,v1,v2,v3,v4,v5,v6,v7,v8,v9,v10],_=>exact ⟨_,_,_,_,_,_,_,_,_,_,_,rfl⟩
theorem rdF_cons (rf:ByteArray → ByteArray → Except Int Vl) (line:Int) (xs:Vls) (f:Fld) (r:List Fld):rdF rf line xs (f :: r) = (match rf (S f.1) (S (foldL f.2)) with
  | .error e=>.error (e,line)
  | .ok x=>rdF rf (furth line f.2.length) (keep xs f.1 x) r):=rfl
def rdT (must:List Nat) (line:Int):Except (Int × Int) Vls → Except (Int × Int) Vls
 | .error p=>.error p
 | .ok xs=>if must.any (fun i=>isNo (xs i)) = true then .error (5,line) else .ok xs
theorem rdS_eq (rf:ByteArray → ByteArray → Except Int Vl) (must:List Nat) (line:Int) (fs:List Fld):rdS rf must (line,fs) = rdT must line (rdF rf line no fs):=rfl
set_option maxRecDepth 100000 in
set_option maxHeartbeats 16000000 in
theorem read_any (f:FuncId) (rf:ByteArray → ByteArray → Except Int Vl) (hF:Field f rf) (must:List Nat) (hmust:∀ i ∈ must,i < 11) (hml:must.length ≤ 100) (mb:Nat) (line:Int) (fv:Value) (fs:List Fld) (w:World) (hG:Gl w) (hl:LineOK line) (hFl:Flds w fv fs) (hok:∀ f ∈ fs,FOk f)
  (hM:∀ j,j < must.length → w.cell? ⟨mb,j,none⟩ = some (.int .i64 (must.getD j 0:Nat))) :
  Calls Tryz.prog 64 #[.agg #[.int .i64 line,fv],.func (.func f) #[] #[],.slice (some ⟨mb,0,none⟩) must.length must.length] w fun e w'=>RdP (rdS rf must (line,fs)) w e w':=by
 obtain ⟨hmx,fa,fc,rfl,hfc,hread⟩:=id hFl
 obtain ⟨O,hO⟩:∃ O,rdF rf line no fs = O:=⟨_,rfl⟩
 obtain ⟨P,hP⟩:∃ P,rdS rf must (line,fs) = P:=⟨_,rfl⟩
 have hPO:rdT must line O = P:=by rw [← hP,← hO,rdS_eq]
 rw [hP]
 have he:=hF.call
 obtain ⟨n,hn⟩:∃ n,fs.length = n:=⟨_,rfl⟩
 obtain ⟨m,hm⟩:∃ m,must.length = m:=⟨_,rfl⟩
 obtain ⟨W,hW,hB,hsz,hI0,hI1,hI2,hI3⟩:=four_new w 40 99 45 99 #[.int .i64 line,.slice fa fs.length fc] nils #[.int .i64 0,.int .i64 0] nils
 unfold nils at hW
 rw [hn] at hmx hfc hI0 hW ⊢
 rw [hm] at hml ⊢
 have HF:=Lib.hid hF
 have HO:=Lib.hid hO
 have HPO:=Lib.hid hPO
 have HMU:=Lib.hid hmust
 have HN:=Lib.hid (⟨hn,hm⟩:_ ∧ _)
 have HG:=Lib.hid hG
 have HL:=Lib.hid hl
 have HFL:=Lib.hid (show Flds w (.slice fa n fc) fs by rw [← hn]; exact hFl)
 have HOK:=Lib.hid hok
 have HMM:=Lib.hid hM
 have HB:=Lib.hid hB
 have HSZ:=Lib.hid hsz
 have I0:=Lib.hid hI0
 have I1:=Lib.hid hI1
 have I2:=Lib.hid hI2
 have I3:=Lib.hid hI3
 have c0:=hI0.at (i:=0) rfl
 have c1:=hI0.at (i:=1) rfl
 clear hO hP hPO hmust hn hm hG hl hFl hok hM hB hsz hI0 hI1 hI2 hI3 hF hread
 go_enter Tryz.func64,Tryz.ntmps64
 go_wp2_with fail
 clear hW c0 c1
 go_loopg [9,21] n (fun gf s9 s21 wx=>∃ (k:Nat) (ln:Int) (cs:Array Value) (xs:Vls),s9 = .int .i64 ln ∧ s21 = .int .i64 k ∧ Hid (Below w.heap.size w wx ∧ Blk.Is wx w.heap.size 40 #[.int .i64 line,.slice fa n fc] ∧ Blk.Is wx (w.heap.size + 1) 99 nils ∧ Blk.Is wx (w.heap.size + 1 + 1) 45 #[.int .i64 0,.int .i64 0] ∧ Blk.Is wx (w.heap.size + 1 + 1 + 1) 99 cs ∧ Vs (w.heap.size + 4) wx cs xs ∧ SmallV xs ∧ w.heap.size + 4 ≤ wx.heap.size) ∧ Hid (LineOK ln) ∧ Hid (rdF rf ln xs (fs.drop k) = O) ∧ k ≤ n ∧ n ≤ k + gf)
 case atStart=>exact ⟨0,line,nils,no,rfl,rfl,Lib.hid ⟨HB.out,I0.out,I1.out,I2.out,I3.out,vs_nils _ _,small_no,by have:=HSZ.out; omega⟩,HL,HO,by omega,by omega⟩
 case round =>
  obtain ⟨k,ln,cs,xs,rfl,rfl,HI,HLN,HO2,hkn,hfu⟩:=hrel
  by_cases hlt:k < n
  ·obtain ⟨g',rfl⟩:∃ g',gk = g' + 1:=⟨gk - 1,by omega⟩
   have hlt':(k:Int) < (n:Int):=by omega
   have hk0:(0:Int) ≤ k:=by omega
   have hkl:k < fs.length:=by rw [HN.out.1]; exact hlt
   have hb:=HI.out.1
   obtain ⟨_,a',cap',e1,_,hr⟩:=HFL.out.below hb
   rw [HN.out.1] at e1
   simp only [Value.slice.injEq,true_and] at e1
   obtain ⟨rfl,rfl⟩:=e1
   obtain ⟨kb,off,rfl,hat⟩:=hr (by omega)
   obtain ⟨x0,u,x1,xT⟩:=hat k hkl
   rw [Nat.mul_comm 2 k] at x0 x1
   have hfo:=HOK.out _ (Rl.mem_getD (z:=(([],[]):Fld)) hkl)
   have hd:fs.drop k = fs.getD k ([],[]) :: fs.drop (k + 1):=by
    rw [List.drop_eq_getElem_cons hkl,List.getD_eq_getElem?_getD,List.getElem?_eq_getElem hkl]; rfl
   have hO3:=HO2.out
   rw [hd,rdF_cons] at hO3
   obtain ⟨ft,hft⟩:∃ ft,fs.getD k ([],[]) = ft:=⟨_,rfl⟩
   rw [hft] at x0 xT hfo hO3
   obtain ⟨nm,ls⟩:=ft
   simp only at x0 xT hO3
   replace x0:wr.cell? ⟨kb,off + k * 2,none⟩ = some (.string (S nm)):=x0
   obtain ⟨_,ua,uc,rfl,_,_⟩:=id xT
   rw [List.length_map] at x1 xT
   have hcnt:=hfo.cnt
   simp only at hcnt
   obtain ⟨q,hq⟩:∃ q,ls.length = q:=⟨_,rfl⟩
   rw [hq] at x1 xT hcnt
   have HQ:=Lib.hid hq
   have HFO:=Lib.hid hfo
   have HO4:=Lib.hid hO3
   have hb2:=(Below.refl wr.heap.size wr).alloc (Nat.le_refl _) (.cells #[.string (S nm),.slice ua q uc] 43)
   have j2:=Blk.Is.new wr 43 #[.string (S nm),.slice ua q uc]
   have XT:=Lib.hid (xT.below hb2)
   have hI2:Below w.heap.size w (wr.alloc (.cells #[.string (S nm),.slice ua q uc] 43)) ∧ Blk.Is (wr.alloc (.cells #[.string (S nm),.slice ua q uc] 43)) w.heap.size 40 #[.int .i64 line,.slice (some ⟨kb,off,none⟩) n fc] ∧ Blk.Is (wr.alloc (.cells #[.string (S nm),.slice ua q uc] 43)) (w.heap.size + 1) 99 nils ∧ Blk.Is (wr.alloc (.cells #[.string (S nm),.slice ua q uc] 43)) (w.heap.size + 1 + 1) 45 #[.int .i64 0,.int .i64 0] ∧ Blk.Is (wr.alloc (.cells #[.string (S nm),.slice ua q uc] 43)) (w.heap.size + 1 + 1 + 1) 99 cs ∧ Vs (w.heap.size + 4) (wr.alloc (.cells #[.string (S nm),.slice ua q uc] 43)) cs xs ∧ SmallV xs ∧ w.heap.size + 4 ≤ (wr.alloc (.cells #[.string (S nm),.slice ua q uc] 43)).heap.size:=⟨hb.trans (hb2.mono hb.size),Rl.is_on HI.out.2.1 hb2,Rl.is_on HI.out.2.2.1 hb2,Rl.is_on HI.out.2.2.2.1 hb2,Rl.is_on HI.out.2.2.2.2.1 hb2,HI.out.2.2.2.2.2.1.below hb2,HI.out.2.2.2.2.2.2.1,Nat.le_trans HI.out.2.2.2.2.2.2.2 hb2.size⟩
   obtain ⟨W1,hW1⟩:∃ W1,wr.alloc (.cells #[.string (S nm),.slice ua q uc] 43) = W1:=⟨_,rfl⟩
   rw [hW1] at hb2 j2 XT hI2
   have HI2:=Lib.hid hI2
   have J2:=Lib.hid j2
   clear hat hr hd hft hfo hO3 hq xT hb hb2 j2 hI2 HO2 HI
   go_upto_region 6 with fail
   obtain ⟨bf,hbf⟩:∃ bf,wr.heap.size = bf:=⟨_,rfl⟩
   rw [hbf] at J2 ⊢
   clear hW1 hbf x0 x1
   have hX0:∀ u,Below W1.heap.size W1 u → u.cell? ⟨bf,0,none⟩ = some (.string (S nm)):=fun u hu=>Rl.cell_on (J2.out.at (i:=0) rfl) hu
   have hX1:∀ u,Below W1.heap.size W1 u → u.cell? ⟨bf,1,none⟩ = some (.slice ua q uc):=fun u hu=>Rl.cell_on (J2.out.at (i:=1) rfl) hu
   have HX0:=Lib.hid hX0
   have HX1:=Lib.hid hX1
   clear hX0 hX1
   obtain ⟨R,hR⟩:∃ R,rf (S nm) (S (foldL ls)) = R:=⟨_,rfl⟩
   have HR:=Lib.hid hR
   clear hR
   go_cut [12,13,21] from 21 to 50 (fun s12 s13 s21 wx=>∃ (bx:Nat) (v:Value) (er:Int),s12 = .pointer (some ⟨bx,0,none⟩) ∧ s13 = .int .i64 er ∧ s21 = .int .i64 k ∧ Blk.Is wx bx 97 #[v] ∧ Va.IsI v ∧ Va.Ans R (w.heap.size + 4) wx v er ∧ Below W1.heap.size W1 wx)
   case first =>
    skip
    refine wp_region_held (S:=fun u=>Below W1.heap.size W1 u) (by kernel_rfl) ?_
    have hS0:Below W1.heap.size W1 W1.drew:=(Below.refl _ _).drew
    change wpAnyH _ _ _ _ _ 13 _ _ W1.drew
    generalize W1.drew = u0 at *
    refine wpAnyH_take (i:=0) (v:=.func (.func f) #[] #[]) rfl (by kernel_rfl) (by kernel_rfl) (by kernel_rfl) (fun _ _ _ h=>h) (.inl ⟨rfl,fun w _=>rfl⟩) hS0 ?_
    simp only [Act.put,List.getElem_toArray,List.getElem_cons_zero,List.getElem_cons_succ,List.setIfInBounds_toArray,List.set_cons_zero,List.set_cons_succ]
    refine wpAnyH_take (i:=1) (v:=.pointer (some ⟨bf,0,none⟩)) rfl (by kernel_rfl) (by kernel_rfl) (by kernel_rfl) (fun _ _ _ h=>h) (.inl ⟨rfl,fun w _=>rfl⟩) hS0 ?_
    simp only [Act.put,List.getElem_toArray,List.getElem_cons_zero,List.getElem_cons_succ,List.setIfInBounds_toArray,List.set_cons_zero,List.set_cons_succ]
    refine wpAnyH_take (i:=2) (v:=.string (S nm)) rfl (by kernel_rfl) (by kernel_rfl) (by kernel_rfl) (fun _ _ _ h=>h) (Held.load1 rfl 9 (.tmp 27) rfl bf 0 rfl _ _ HX0.out Tryz.underlying9 rfl) hS0 ?_
    simp only [Act.put,List.getElem_toArray,List.getElem_cons_zero,List.getElem_cons_succ,List.setIfInBounds_toArray,List.set_cons_zero,List.set_cons_succ]
    refine wpAnyH_take (i:=3) (v:=.pointer (some ⟨bf,1,none⟩)) rfl (by kernel_rfl) (by kernel_rfl) (by kernel_rfl) (fun _ _ _ h=>h) (.inl ⟨rfl,fun w _=>rfl⟩) hS0 ?_
    simp only [Act.put,List.getElem_toArray,List.getElem_cons_zero,List.getElem_cons_succ,List.setIfInBounds_toArray,List.set_cons_zero,List.set_cons_succ]
    refine wpAnyH_take (i:=4) (v:=.slice ua q uc) rfl (by kernel_rfl) (by kernel_rfl) (by kernel_rfl) (fun _ _ _ h=>h) (Held.load1 rfl 41 (.tmp 29) rfl bf 1 rfl _ _ HX1.out Tryz.underlying41 rfl) hS0 ?_
    simp only [Act.put,List.getElem_toArray,List.getElem_cons_zero,List.getElem_cons_succ,List.setIfInBounds_toArray,List.set_cons_zero,List.set_cons_succ]
    refine wpAnyH_all (rs:=[5,10]) (by kernel_rfl) (by simp) ?_
    intro i hi
    simp only [List.mem_cons,List.not_mem_nil,or_false] at hi
    rcases hi with rfl | rfl
    ·have cx:=Stz.fold_any _ ls u0 (XT.out.below hS0) (by rw [HQ.out]; omega) (fun x hx=>by have:=HFO.out.len x hx; omega) HFO.out.fold (HG.out.on (HI2.out.1.trans (hS0.mono HI2.out.1.size))).u
     refine Reg.wpOp_list rfl ?_
     go_wp2_with fail
     refine cx.mono ?_
     rintro e u1 ⟨rfl,kk1⟩
     go_wp2_with fail
     change _ ∧ _
     have hS1:Below W1.heap.size W1 u1:=hS0.trans (kk1.mono hS0.size)
     refine ⟨hS1,?_⟩
     clear cx
     refine wpAnyH_all (rs:=[6,10]) (by kernel_rfl) (by simp) ?_
     intro i hi
     simp only [List.mem_cons,List.not_mem_nil,or_false] at hi
     rcases hi with rfl | rfl
     ·have cx:=HF.out.con (S nm) (S (foldL ls)) u1 (by rw [S_size]; have:=HFO.out.nm; simp only at this; omega) (by rw [S_size]; exact HFO.out.fold) (HG.out.on (HI2.out.1.trans (hS1.mono HI2.out.1.size)))
      rw [HR.out] at cx
      refine Reg.wpOp_list rfl ?_
      go_wp2_with fail
      refine cx.mono ?_
      rintro e u2 ⟨v,er,rfl,hIv,kk2,hA⟩
      go_wp2_with fail
      change _ ∧ _
      have hS2:Below W1.heap.size W1 u2:=hS1.trans (kk2.mono hS1.size)
      refine ⟨hS2,?_⟩
      clear cx
      have hbd:w.heap.size + 4 ≤ u1.heap.size:=Nat.le_trans HI2.out.2.2.2.2.2.2.2 hS1.size
      refine wpAnyH_take (i:=7) (v:=.tuple #[.agg #[v],.int .i64 er]) rfl (by kernel_rfl) (by kernel_rfl) (by kernel_rfl) (fun _ _ _ h=>h) (.inl ⟨rfl,fun w _=>rfl⟩) hS2 ?_
      simp only [Act.put,List.getElem_toArray,List.getElem_cons_zero,List.getElem_cons_succ,List.setIfInBounds_toArray,List.set_cons_zero,List.set_cons_succ]
      refine wpAnyH_take (i:=8) (v:=.agg #[v]) rfl (by kernel_rfl) (by kernel_rfl) (by kernel_rfl) (fun _ _ _ h=>h) (.inl ⟨rfl,fun w _=>rfl⟩) hS2 ?_
      simp only [Act.put,List.getElem_toArray,List.getElem_cons_zero,List.getElem_cons_succ,List.setIfInBounds_toArray,List.set_cons_zero,List.set_cons_succ]
      refine wpAnyH_take (i:=9) (v:=.int .i64 er) rfl (by kernel_rfl) (by kernel_rfl) (by kernel_rfl) (fun _ _ _ h=>h) (.inl ⟨rfl,fun w _=>rfl⟩) hS2 ?_
      simp only [Act.put,List.getElem_toArray,List.getElem_cons_zero,List.getElem_cons_succ,List.setIfInBounds_toArray,List.set_cons_zero,List.set_cons_succ]
      refine wpAnyH_all (rs:=[10]) (by kernel_rfl) (by simp) ?_
      intro i hi
      obtain rfl:=List.mem_singleton.1 hi
      refine Reg.wpOp_list rfl ?_
      go_wp2_with fail
      change _ ∧ _
      have ja3:=Blk.Is.new u2 97 #[.nilIface]
      have hS3:Below W1.heap.size W1 (u2.alloc (.cells #[.nilIface] 97)):=hS2.alloc hS2.size _
      have kk3:Below u2.heap.size u2 (u2.alloc (.cells #[.nilIface] 97)):=(Below.refl _ _).alloc (Nat.le_refl _) _
      have hx3:W1.heap.size ≤ u2.heap.size:=hS2.size
      obtain ⟨bx,hbx⟩:∃ bx,u2.heap.size = bx:=⟨_,rfl⟩
      rw [hbx] at ja3 hx3 ⊢
      generalize u2.alloc (.cells #[.nilIface] 97) = u3 at *
      have hle3:u2.heap.size ≤ bx:=Nat.le_of_eq hbx
      clear hbx
      refine ⟨hS3,?_⟩
      have ho:v.oneCell' = true:=by rcases hIv with rfl | ⟨t0,y0,rfl⟩ <;> rfl
      have hi1:(Tryz.prog.info? 97).map (·.size) = some 1:=by kernel_rfl
      refine wpAnyH_all (rs:=[11]) (by kernel_rfl) (by simp) ?_
      intro i hi
      obtain rfl:=List.mem_singleton.1 hi
      refine Reg.wpOp_list rfl ?_
      refine wpList_store_row rfl 97 (.tmp 12) (.tmp 33) rfl bx #[v] rfl rfl 97 #[.nilIface] ja3 hi1 (by rfl) (by simp [ho]) ?_
      have jb:=ja3.row #[v]
      have hS4:Below W1.heap.size W1 (u3.setRow bx #[v]):=Va.below_row hS3 hx3 _
      have hA3:=(Va.ans_told R).mono _ (w.heap.size + 4) _ _ _ hbd ((Va.ans_told R).on _ _ _ _ _ hA ((Blk.Chg.ofBelow' kk3).setRow' hle3 #[v]))
      go_wp2_with fail
      change _ ∧ _
      refine ⟨hS4,?_⟩
      generalize u3.setRow bx #[v] = u4 at *
      refine wpAnyH_all (rs:=[12]) (by kernel_rfl) (by simp) ?_
      intro i hi
      obtain rfl:=List.mem_singleton.1 hi
      refine Reg.wpOp_list rfl ?_
      go_wp2_with fail
      change _ ∧ _
      refine ⟨hS4,?_⟩
      refine wpAnyH_done (by kernel_rfl) ?_ _
      go_wp2_with fail
      go_meet
      exact ⟨bx,v,er,rfl,rfl,rfl,jb,hIv,hA3,hS4⟩
     ·refine Reg.wpOp_list rfl ?_
      go_wp2_with fail
      change _ ∧ _
      have ja2:=Blk.Is.new u1 97 #[.nilIface]
      have hS2:Below W1.heap.size W1 (u1.alloc (.cells #[.nilIface] 97)):=hS1.alloc hS1.size _
      have kk2:Below u1.heap.size u1 (u1.alloc (.cells #[.nilIface] 97)):=(Below.refl _ _).alloc (Nat.le_refl _) _
      have hx2:W1.heap.size ≤ u1.heap.size:=hS1.size
      obtain ⟨bx,hbx⟩:∃ bx,u1.heap.size = bx:=⟨_,rfl⟩
      rw [hbx] at ja2 hx2 ⊢
      generalize u1.alloc (.cells #[.nilIface] 97) = u2 at *
      have hle2:u1.heap.size ≤ bx:=Nat.le_of_eq hbx
      clear hbx
      refine ⟨hS2,?_⟩
      refine wpAnyH_all (rs:=[6]) (by kernel_rfl) (by simp) ?_
      intro i hi
      obtain rfl:=List.mem_singleton.1 hi
      have cx:=HF.out.con (S nm) (S (foldL ls)) u2 (by rw [S_size]; have:=HFO.out.nm; simp only at this; omega) (by rw [S_size]; exact HFO.out.fold) (HG.out.on (HI2.out.1.trans (hS2.mono HI2.out.1.size)))
      rw [HR.out] at cx
      refine Reg.wpOp_list rfl ?_
      go_wp2_with fail
      refine cx.mono ?_
      rintro e u3 ⟨v,er,rfl,hIv,kk3,hA⟩
      go_wp2_with fail
      change _ ∧ _
      have hS3:Below W1.heap.size W1 u3:=hS2.trans (kk3.mono hS2.size)
      refine ⟨hS3,?_⟩
      clear cx
      have hbd:w.heap.size + 4 ≤ u2.heap.size:=Nat.le_trans HI2.out.2.2.2.2.2.2.2 hS2.size
      have hbl:bx < u2.heap.size:=ja2.lt
      have ja3:=Rl.is_on ja2 kk3
      refine wpAnyH_take (i:=7) (v:=.tuple #[.agg #[v],.int .i64 er]) rfl (by kernel_rfl) (by kernel_rfl) (by kernel_rfl) (fun _ _ _ h=>h) (.inl ⟨rfl,fun w _=>rfl⟩) hS3 ?_
      simp only [Act.put,List.getElem_toArray,List.getElem_cons_zero,List.getElem_cons_succ,List.setIfInBounds_toArray,List.set_cons_zero,List.set_cons_succ]
      refine wpAnyH_take (i:=8) (v:=.agg #[v]) rfl (by kernel_rfl) (by kernel_rfl) (by kernel_rfl) (fun _ _ _ h=>h) (.inl ⟨rfl,fun w _=>rfl⟩) hS3 ?_
      simp only [Act.put,List.getElem_toArray,List.getElem_cons_zero,List.getElem_cons_succ,List.setIfInBounds_toArray,List.set_cons_zero,List.set_cons_succ]
      refine wpAnyH_take (i:=9) (v:=.int .i64 er) rfl (by kernel_rfl) (by kernel_rfl) (by kernel_rfl) (fun _ _ _ h=>h) (.inl ⟨rfl,fun w _=>rfl⟩) hS3 ?_
      simp only [Act.put,List.getElem_toArray,List.getElem_cons_zero,List.getElem_cons_succ,List.setIfInBounds_toArray,List.set_cons_zero,List.set_cons_succ]
      have ho:v.oneCell' = true:=by rcases hIv with rfl | ⟨t0,y0,rfl⟩ <;> rfl
      have hi1:(Tryz.prog.info? 97).map (·.size) = some 1:=by kernel_rfl
      refine wpAnyH_all (rs:=[11]) (by kernel_rfl) (by simp) ?_
      intro i hi
      obtain rfl:=List.mem_singleton.1 hi
      refine Reg.wpOp_list rfl ?_
      refine wpList_store_row rfl 97 (.tmp 12) (.tmp 33) rfl bx #[v] rfl rfl 97 #[.nilIface] ja3 hi1 (by rfl) (by simp [ho]) ?_
      have jb:=ja3.row #[v]
      have hS4:Below W1.heap.size W1 (u3.setRow bx #[v]):=Va.below_row hS3 hx2 _
      have hA3:=(Va.ans_told R).mono _ (w.heap.size + 4) _ _ _ hbd ((Va.ans_told R).on _ _ _ _ _ hA ((Blk.Chg.refl (fun k=>k < u2.heap.size) u3).setRow hbl #[v]))
      go_wp2_with fail
      change _ ∧ _
      refine ⟨hS4,?_⟩
      generalize u3.setRow bx #[v] = u4 at *
      refine wpAnyH_all (rs:=[12]) (by kernel_rfl) (by simp) ?_
      intro i hi
      obtain rfl:=List.mem_singleton.1 hi
      refine Reg.wpOp_list rfl ?_
      go_wp2_with fail
      change _ ∧ _
      refine ⟨hS4,?_⟩
      refine wpAnyH_done (by kernel_rfl) ?_ _
      go_wp2_with fail
      go_meet
      exact ⟨bx,v,er,rfl,rfl,rfl,jb,hIv,hA3,hS4⟩
    ·refine Reg.wpOp_list rfl ?_
     go_wp2_with fail
     change _ ∧ _
     have ja1:=Blk.Is.new u0 97 #[.nilIface]
     have hS1:Below W1.heap.size W1 (u0.alloc (.cells #[.nilIface] 97)):=hS0.alloc hS0.size _
     have kk1:Below u0.heap.size u0 (u0.alloc (.cells #[.nilIface] 97)):=(Below.refl _ _).alloc (Nat.le_refl _) _
     have hx1:W1.heap.size ≤ u0.heap.size:=hS0.size
     obtain ⟨bx,hbx⟩:∃ bx,u0.heap.size = bx:=⟨_,rfl⟩
     rw [hbx] at ja1 hx1 ⊢
     generalize u0.alloc (.cells #[.nilIface] 97) = u1 at *
     have hle1:u0.heap.size ≤ bx:=Nat.le_of_eq hbx
     clear hbx
     refine ⟨hS1,?_⟩
     refine wpAnyH_all (rs:=[5]) (by kernel_rfl) (by simp) ?_
     intro i hi
     obtain rfl:=List.mem_singleton.1 hi
     have cx:=Stz.fold_any _ ls u1 (XT.out.below hS1) (by rw [HQ.out]; omega) (fun x hx=>by have:=HFO.out.len x hx; omega) HFO.out.fold (HG.out.on (HI2.out.1.trans (hS1.mono HI2.out.1.size))).u
     refine Reg.wpOp_list rfl ?_
     go_wp2_with fail
     refine cx.mono ?_
     rintro e u2 ⟨rfl,kk2⟩
     go_wp2_with fail
     change _ ∧ _
     have hS2:Below W1.heap.size W1 u2:=hS1.trans (kk2.mono hS1.size)
     refine ⟨hS2,?_⟩
     clear cx
     have ja2:=Rl.is_on ja1 kk2
     refine wpAnyH_all (rs:=[6]) (by kernel_rfl) (by simp) ?_
     intro i hi
     obtain rfl:=List.mem_singleton.1 hi
     have cx:=HF.out.con (S nm) (S (foldL ls)) u2 (by rw [S_size]; have:=HFO.out.nm; simp only at this; omega) (by rw [S_size]; exact HFO.out.fold) (HG.out.on (HI2.out.1.trans (hS2.mono HI2.out.1.size)))
     rw [HR.out] at cx
     refine Reg.wpOp_list rfl ?_
     go_wp2_with fail
     refine cx.mono ?_
     rintro e u3 ⟨v,er,rfl,hIv,kk3,hA⟩
     go_wp2_with fail
     change _ ∧ _
     have hS3:Below W1.heap.size W1 u3:=hS2.trans (kk3.mono hS2.size)
     refine ⟨hS3,?_⟩
     clear cx
     have hbd:w.heap.size + 4 ≤ u2.heap.size:=Nat.le_trans HI2.out.2.2.2.2.2.2.2 hS2.size
     have hbl:bx < u2.heap.size:=ja2.lt
     have ja3:=Rl.is_on ja2 kk3
     refine wpAnyH_take (i:=7) (v:=.tuple #[.agg #[v],.int .i64 er]) rfl (by kernel_rfl) (by kernel_rfl) (by kernel_rfl) (fun _ _ _ h=>h) (.inl ⟨rfl,fun w _=>rfl⟩) hS3 ?_
     simp only [Act.put,List.getElem_toArray,List.getElem_cons_zero,List.getElem_cons_succ,List.setIfInBounds_toArray,List.set_cons_zero,List.set_cons_succ]
     refine wpAnyH_take (i:=8) (v:=.agg #[v]) rfl (by kernel_rfl) (by kernel_rfl) (by kernel_rfl) (fun _ _ _ h=>h) (.inl ⟨rfl,fun w _=>rfl⟩) hS3 ?_
     simp only [Act.put,List.getElem_toArray,List.getElem_cons_zero,List.getElem_cons_succ,List.setIfInBounds_toArray,List.set_cons_zero,List.set_cons_succ]
     refine wpAnyH_take (i:=9) (v:=.int .i64 er) rfl (by kernel_rfl) (by kernel_rfl) (by kernel_rfl) (fun _ _ _ h=>h) (.inl ⟨rfl,fun w _=>rfl⟩) hS3 ?_
     simp only [Act.put,List.getElem_toArray,List.getElem_cons_zero,List.getElem_cons_succ,List.setIfInBounds_toArray,List.set_cons_zero,List.set_cons_succ]
     have ho:v.oneCell' = true:=by rcases hIv with rfl | ⟨t0,y0,rfl⟩ <;> rfl
     have hi1:(Tryz.prog.info? 97).map (·.size) = some 1:=by kernel_rfl
     refine wpAnyH_all (rs:=[11]) (by kernel_rfl) (by simp) ?_
     intro i hi
     obtain rfl:=List.mem_singleton.1 hi
     refine Reg.wpOp_list rfl ?_
     refine wpList_store_row rfl 97 (.tmp 12) (.tmp 33) rfl bx #[v] rfl rfl 97 #[.nilIface] ja3 hi1 (by rfl) (by simp [ho]) ?_
     have jb:=ja3.row #[v]
     have hS4:Below W1.heap.size W1 (u3.setRow bx #[v]):=Va.below_row hS3 hx1 _
     have hA3:=(Va.ans_told R).mono _ (w.heap.size + 4) _ _ _ hbd ((Va.ans_told R).on _ _ _ _ _ hA ((Blk.Chg.refl (fun k=>k < u2.heap.size) u3).setRow hbl #[v]))
     go_wp2_with fail
     change _ ∧ _
     refine ⟨hS4,?_⟩
     generalize u3.setRow bx #[v] = u4 at *
     refine wpAnyH_all (rs:=[12]) (by kernel_rfl) (by simp) ?_
     intro i hi
     obtain rfl:=List.mem_singleton.1 hi
     refine Reg.wpOp_list rfl ?_
     go_wp2_with fail
     change _ ∧ _
     refine ⟨hS4,?_⟩
     refine wpAnyH_done (by kernel_rfl) ?_ _
     go_wp2_with fail
     go_meet
     exact ⟨bx,v,er,rfl,rfl,rfl,jb,hIv,hA3,hS4⟩
   case rest =>
    obtain ⟨bx,v,er,rfl,rfl,rfl,jb,hIv,hA,hbw⟩:=hcut
    have hb3:=HI2.out.1.trans (hbw.mono HI2.out.1.size)
    have hi0:=Rl.is_on HI2.out.2.1 hbw
    have hi1:=Rl.is_on HI2.out.2.2.1 hbw
    have hi2:=Rl.is_on HI2.out.2.2.2.1 hbw
    have hi3:=Rl.is_on HI2.out.2.2.2.2.1 hbw
    have hvs:=HI2.out.2.2.2.2.2.1.below hbw
    have hsm:=HI2.out.2.2.2.2.2.2.1
    have hbd:w.heap.size + 4 ≤ wc.heap.size:=Nat.le_trans HI2.out.2.2.2.2.2.2.2 hbw.size
    have hjf:=Rl.is_on J2.out hbw
    have hi11:(Tryz.prog.info? 99).map (·.size) = some 11:=by kernel_rfl
    have hi2z:(Tryz.prog.info? 45).map (·.size) = some 2:=by kernel_rfl
    cases R with
    | error e0 =>
     obtain ⟨rfl,rfl⟩:=hA
     have hne:(er != 0) = true:=by
      have:=HF.out.ne _ _ _ HR.out
      simp [this]
     have hP:P = .error (er,ln):=by
      have h4:=HO4.out
      rw [HR.out] at h4
      simp only at h4
      rw [← HPO.out,← h4]; rfl
     have ha:=hi2.rowOther (g:=w.heap.size + 1) nils (by omega)
     have HI1':=Lib.hid hi1
     have HA':=Lib.hid ha
     have hbz:Below w.heap.size w ((wc.setRow (w.heap.size + 1) nils).setRow (w.heap.size + 1 + 1) #[.int .i64 er,.int .i64 ln]):=Va.below_row (Va.below_row hb3 (by omega) _) (by omega) _
     have hr1:=(hi1.row nils).rowOther (g:=w.heap.size + 1 + 1) #[.int .i64 er,.int .i64 ln] (by omega)
     have hr2:=ha.row #[.int .i64 er,.int .i64 ln]
     clear hb3 hi0 hi1 hi2 hi3 hvs hsm hbd hjf jb hIv ha HI2 J2 HX0 HX1 XT HFO HO4 HR HF HO HPO HMU HN HG HL HOK HMM HB HSZ I0 I1 I2 I3 HFL HLN he hbw
     go_wp2_with (first | (refine wpList_store_row rfl 99 (.tmp 6) (.tmp 37) rfl (w.heap.size + 1) nils rfl rfl 99 nils HI1'.out hi11 (by rfl) (by simp [nils,Value.oneCell']) ?_) | (refine wpList_store_row rfl 45 (.tmp 7) (.tmp 40) rfl (w.heap.size + 1 + 1) #[.int .i64 er,.int .i64 ln] rfl rfl 45 #[.int .i64 0,.int .i64 0] HA'.out hi2z (by rfl) (by simp [Value.oneCell']) ?_))
     generalize ((wc.setRow (w.heap.size + 1) nils).setRow (w.heap.size + 1 + 1) #[.int .i64 er,.int .i64 ln]) = wz at *
     have r0:=hr1.at (i:=0) rfl
     have r1:=hr1.at (i:=1) rfl
     have r2:=hr1.at (i:=2) rfl
     have r3:=hr1.at (i:=3) rfl
     have r4:=hr1.at (i:=4) rfl
     have r5:=hr1.at (i:=5) rfl
     have r6:=hr1.at (i:=6) rfl
     have r7:=hr1.at (i:=7) rfl
     have r8:=hr1.at (i:=8) rfl
     have r9:=hr1.at (i:=9) rfl
     have r10:=hr1.at (i:=10) rfl
     have a0:=hr2.at (i:=0) rfl
     have a1:=hr2.at (i:=1) rfl
     clear hr1 hr2 HI1' HA'
     refine bodyPost_ret (v:=.tuple #[.agg nils,.agg #[.int .i64 er,.int .i64 ln]]) ?_ rfl ?_
     ·simp [results,Tryz.results64,go_sem,r0,r1,r2,r3,r4,r5,r6,r7,r8,r9,r10,a0,a1,nils]
     ·exact ⟨_,no,_,_,rfl,vs_nils _ _,small_no,hbz,by rw [hP]; exact ⟨rfl,rfl,rfl⟩⟩
    | ok x =>
     obtain ⟨rfl,hx⟩:=hA
     have hxs:=HF.out.small _ _ _ HR.out
     have hO5:=HO4.out
     rw [HR.out] at hO5
     simp only at hO5
     have HO5:=Lib.hid hO5
     have ck:=keep_any (w.heap.size + 1 + 1 + 1) cs xs nm (w.heap.size + 4) v x wc (by have:=HFO.out.nm; simp only at this; omega) hi3 hvs hx (by omega) (HG.out.on hb3).n
     have f0:=hjf.at (i:=0) rfl
     have v0:=jb.at (i:=0) rfl
     have HB3:=Lib.hid hb3
     have H0:=Lib.hid hi0
     have H1:=Lib.hid hi1
     have H2:=Lib.hid hi2
     have HJF:=Lib.hid hjf
     have HXS:=Lib.hid hxs
     have HSM:=Lib.hid hsm
     have HBD:=Lib.hid hbd
     have HBF:=Lib.hid (show bf ≠ w.heap.size + 1 + 1 + 1 by
      intro e
      have h1:=hi3
      rw [← e] at h1
      exact absurd (h1.inj hjf).1 (by decide))
     clear hO5 hbd hsm hxs hi0 hi1 hi2 hi3 hb3 hvs hx hIv HI2 J2 HX0 HX1 XT HO4 HR jb hjf hbw
     go_wp2_with fail
     refine ck.mono ?_
     rintro e w5 ⟨rfl,cs',hi3,hvs,hch⟩
     have hb5:Below w.heap.size wc w5:=hch.below (fun j e=>by rw [e]; omega) HB3.out.size
     have hb3:=HB3.out.trans hb5
     have hi0:=hch.is H0.out (by omega)
     have hi1:=hch.is H1.out (by omega)
     have hi2:=hch.is H2.out (by omega)
     have hjf:=hch.is HJF.out HBF.out
     have f1:=hjf.at (i:=1) rfl
     have hbd:w.heap.size + 4 ≤ w5.heap.size:=Nat.le_trans HBD.out hch.size
     have R5:=Lib.hid (⟨hb3,hi0,hi1,hi2,hi3,hvs,small_keep nm HSM.out HXS.out,hbd⟩:Below w.heap.size w w5 ∧ Blk.Is w5 w.heap.size 40 #[.int .i64 line,.slice (some ⟨kb,off,none⟩) n fc] ∧ Blk.Is w5 (w.heap.size + 1) 99 nils ∧ Blk.Is w5 (w.heap.size + 1 + 1) 45 #[.int .i64 0,.int .i64 0] ∧ Blk.Is w5 (w.heap.size + 1 + 1 + 1) 99 cs' ∧ Vs (w.heap.size + 4) w5 cs' (keep xs nm x) ∧ SmallV (keep xs nm x) ∧ w.heap.size + 4 ≤ w5.heap.size)
     have cf:=furth_any ln q w5 HLN.out (by omega)
     have hlok:=furth_ok HLN.out q
     have HLK:=Lib.hid hlok
     have hO6:=HO5.out
     rw [HQ.out] at hO6
     have HO6:=Lib.hid hO6
     generalize furth ln q = ln' at *
     clear ck hch hb5 hb3 hi0 hi1 hi2 hi3 hvs hjf hbd hlok hO6 HO5 H0 H1 H2 HJF HSM HXS HBD f0 v0
     go_wp2_with fail
     refine cf.mono ?_
     rintro e w6 ⟨rfl,rfl⟩
     clear cf f1
     go_wp2_with fail
     go_roundg g'
     case measure=>omega
     case rel=>exact ⟨k + 1,ln',cs',_,rfl,by go_num,R5,HLK,HO6,by omega,by omega⟩
  ·have hge:¬ (k:Int) < (n:Int):=by omega
   obtain rfl:k = n:=by omega
   rename World=>wo
   have hO3:=HO2.out
   rw [List.drop_eq_nil_of_le (by rw [HN.out.1]; exact Nat.le_refl _)] at hO3
   have hP2:P = rdT must line (.ok xs):=by rw [← HPO.out,← hO3]; rfl
   have HP2:=Lib.hid hP2
   have hTi:(Tryz.prog.info? 99).map (·.size) = some 11:=by kernel_rfl
   have hTa:(Tryz.prog.info? 45).map (·.size) = some 2:=by kernel_rfl
   have HMB:=Lib.hid (fun j hj=>Rl.cell_on (HMM.out j hj) HI.out.1:∀ j,j < must.length → wo.cell? ⟨mb,j,none⟩ = some (.int .i64 (must.getD j 0:Nat)))
   clear hO3 hP2 hge HO2 HF HO HPO HG HL HOK HMM HB HSZ I0 I1 I2 I3 HFL HLN he hfc hmx hfu
   go_wp2_with fail
   go_loopg [53] m (fun gf s53 wx=>∃ j:Nat,s53 = .int .i64 j ∧ Below wo.heap.size wo wx ∧ Hid (∀ i,i < j → isNo (xs (must.getD i 0)) = false) ∧ j ≤ m ∧ m ≤ j + gf)
   case atStart=>exact ⟨0,rfl,Below.refl _ _,Lib.hid (fun i hi=>absurd hi (by omega)),by omega,by omega⟩
   case round =>
    obtain ⟨j,rfl,hwx,HND,hjm,hfu⟩:=hrel
    have i0:=Rl.is_on HI.out.2.1 hwx
    have i1:=Rl.is_on HI.out.2.2.1 hwx
    have i2:=Rl.is_on HI.out.2.2.2.1 hwx
    have i3:=Rl.is_on HI.out.2.2.2.2.1 hwx
    have vv:=HI.out.2.2.2.2.2.1.below hwx
    have hb:=HI.out.1.trans (hwx.mono HI.out.1.size)
    have SZ:=Lib.hid (valsSz vv.len)
    by_cases hlt:j < m
    ·obtain ⟨g',rfl⟩:∃ g',gk = g' + 1:=⟨gk - 1,by omega⟩
     have hlt':(j:Int) < (m:Int):=by omega
     have hj0:(0:Int) ≤ j:=by omega
     have hjl:j < must.length:=by rw [HN.out.2]; exact hlt
     have hcj:=Rl.cell_on (HMB.out j hjl) hwx
     have hp11:=HMU.out _ (Rl.mem_getD (z:=0) hjl)
     obtain ⟨p,hp⟩:∃ p,must.getD j 0 = p:=⟨_,rfl⟩
     rw [hp] at hcj hp11
     have HPP:=Lib.hid hp
     obtain ⟨vk,hcsk,hvk⟩:=vv.at_ p hp11
     have ch:=has_any cs vv.len p hp11 (w.heap.size + 4) vk (xs p) _ hcsk hvk
     have RG:=Lib.hid (range_vals i3)
     have II:=Lib.hid (⟨i0,i1,i2,hb⟩:_ ∧ _ ∧ _ ∧ _)
     have HWX:=Lib.hid hwx
     clear hp hcsk hvk i0 i1 i2 i3 vv hb hwx
     go_wp2_with (refine BigFrame.wpList_want rfl fun KK hKK=>wp_load_mid 99 (.tmp 8) rfl (w.heap.size + 1 + 1 + 1) 0 rfl cs.toList _ RG.out valsD rfl SZ.out (hKK _ _ ?_))
     refine ch.mono ?_
     rintro e wh ⟨rfl,kb⟩
     clear ch hcj RG
     cases hno:isNo (xs p) with
     | true =>
      have hPe:P = .error (5,line):=by
       rw [HP2.out]
       have:must.any (fun i=>isNo (xs i)) = true:=List.any_eq_true.2 ⟨must.getD j 0,Rl.mem_getD hjl,by rw [HPP.out]; exact hno⟩
       show (if must.any (fun i=>isNo (xs i)) = true then _ else _) = _
       rw [if_pos this]
      have kb2:Below wr.heap.size wr wh.drew:=kb.drew
      have hbz:Below w.heap.size w ((wh.drew.setRow (w.heap.size + 1) nils).setRow (w.heap.size + 1 + 1) #[.int .i64 5,.int .i64 line]):=Va.below_row (Va.below_row (II.out.2.2.2.trans (kb2.mono II.out.2.2.2.size)) (by omega) _) (by omega) _
      have hi0:=Rl.is_on II.out.1 kb2
      have hi1:=Rl.is_on II.out.2.1 kb2
      have hi2:=(Rl.is_on II.out.2.2.1 kb2)
      clear kb kb2 HI II HWX HND SZ HMB HP2 HMU HN hno HPP
      go_upto_region 16 with fail
      refine wp_region_held (S:=fun u=>u.cell? ⟨w.heap.size,0,none⟩ = some (.int .i64 line)) (by kernel_rfl) ?_
      have hS0:wh.drew.cell? ⟨w.heap.size,0,none⟩ = some (.int .i64 line):=hi0.at (i:=0) rfl
      have hS1:(wh.drew.setRow (w.heap.size + 1) nils).cell? ⟨w.heap.size,0,none⟩ = some (.int .i64 line):=(hi0.rowOther (g:=w.heap.size + 1) nils (by omega)).at (i:=0) rfl
      have hS2:((wh.drew.setRow (w.heap.size + 1) nils).setRow (w.heap.size + 1 + 1) #[.int .i64 5,.int .i64 line]).cell? ⟨w.heap.size,0,none⟩ = some (.int .i64 line):=((hi0.rowOther (g:=w.heap.size + 1) nils (by omega)).rowOther (g:=w.heap.size + 1 + 1) _ (by omega)).at (i:=0) rfl
      have ha:=hi2.rowOther (g:=w.heap.size + 1) nils (by omega)
      have hr1:=(hi1.row nils).rowOther (g:=w.heap.size + 1 + 1) #[.int .i64 5,.int .i64 line] (by omega)
      have hr2:=ha.row #[.int .i64 5,.int .i64 line]
      change wpAnyH _ _ _ _ _ 6 _ _ wh.drew
      generalize wh.drew = u0 at *
      refine wpAnyH_take (i:=0) (v:=.agg nils) rfl (by kernel_rfl) (by kernel_rfl) (by kernel_rfl) (fun _ _ _ h=>h) (.inl ⟨rfl,fun w _=>by kernel_rfl⟩) hS0 ?_
      simp only [Act.put,List.getElem_toArray,List.getElem_cons_zero,List.getElem_cons_succ,List.setIfInBounds_toArray,List.set_cons_zero,List.set_cons_succ]
      refine wpAnyH_take (i:=1) (v:=.pointer (some ⟨w.heap.size,0,none⟩)) rfl (by kernel_rfl) (by kernel_rfl) (by kernel_rfl) (fun _ _ _ h=>h) (.inl ⟨rfl,fun w _=>rfl⟩) hS0 ?_
      simp only [Act.put,List.getElem_toArray,List.getElem_cons_zero,List.getElem_cons_succ,List.setIfInBounds_toArray,List.set_cons_zero,List.set_cons_succ]
      refine wpAnyH_take (i:=2) (v:=.int .i64 line) rfl (by kernel_rfl) (by kernel_rfl) (by kernel_rfl) (fun _ _ _ h=>h) (Held.load1 rfl 3 (.tmp 62) rfl w.heap.size 0 rfl _ _ (fun u hu=>hu) Tryz.underlying3 rfl) hS0 ?_
      simp only [Act.put,List.getElem_toArray,List.getElem_cons_zero,List.getElem_cons_succ,List.setIfInBounds_toArray,List.set_cons_zero,List.set_cons_succ]
      refine wpAnyH_take (i:=3) (v:=.agg #[.int .i64 5,.int .i64 line]) rfl (by kernel_rfl) (by kernel_rfl) (by kernel_rfl) (fun _ _ _ h=>h) (.inl ⟨rfl,fun w _=>by kernel_rfl⟩) hS0 ?_
      simp only [Act.put,List.getElem_toArray,List.getElem_cons_zero,List.getElem_cons_succ,List.setIfInBounds_toArray,List.set_cons_zero,List.set_cons_succ]
      refine wpAnyH_all (rs:=[4]) (by kernel_rfl) (by simp) ?_
      intro i hi
      obtain rfl:=List.mem_singleton.1 hi
      refine Reg.wpOp_list rfl ?_
      refine wpList_store_row rfl 99 (.tmp 6) (.tmp 61) rfl (w.heap.size + 1) nils rfl rfl 99 nils hi1 hTi (by rfl) (by simp [nils,Value.oneCell']) ?_
      go_wp2_with fail
      change _ ∧ _
      refine ⟨hS1,?_⟩
      refine wpAnyH_all (rs:=[5]) (by kernel_rfl) (by simp) ?_
      intro i hi
      obtain rfl:=List.mem_singleton.1 hi
      refine Reg.wpOp_list rfl ?_
      refine wpList_store_row rfl 45 (.tmp 7) (.tmp 64) rfl (w.heap.size + 1 + 1) #[.int .i64 5,.int .i64 line] rfl rfl 45 #[.int .i64 0,.int .i64 0] ha hTa (by rfl) (by simp [Value.oneCell']) ?_
      go_wp2_with fail
      change _ ∧ _
      refine ⟨hS2,?_⟩
      refine wpAnyH_done (by kernel_rfl) ?_ _
      generalize ((u0.setRow (w.heap.size + 1) nils).setRow (w.heap.size + 1 + 1) #[.int .i64 5,.int .i64 line]) = wz at *
      have r0:=hr1.at (i:=0) rfl
      have r1:=hr1.at (i:=1) rfl
      have r2:=hr1.at (i:=2) rfl
      have r3:=hr1.at (i:=3) rfl
      have r4:=hr1.at (i:=4) rfl
      have r5:=hr1.at (i:=5) rfl
      have r6:=hr1.at (i:=6) rfl
      have r7:=hr1.at (i:=7) rfl
      have r8:=hr1.at (i:=8) rfl
      have r9:=hr1.at (i:=9) rfl
      have r10:=hr1.at (i:=10) rfl
      have a0:=hr2.at (i:=0) rfl
      have a1:=hr2.at (i:=1) rfl
      clear hr1 hr2 hi1 ha hi2 hi0 hS0 hS1 hS2
      go_wp2_with fail
      refine bodyPost_ret (v:=.tuple #[.agg nils,.agg #[.int .i64 5,.int .i64 line]]) ?_ rfl ?_
      ·simp [results,Tryz.results64,go_sem,r0,r1,r2,r3,r4,r5,r6,r7,r8,r9,r10,a0,a1,nils]
      ·exact ⟨_,no,_,_,rfl,vs_nils _ _,small_no,hbz,by rw [hPe]; exact ⟨rfl,rfl,rfl⟩⟩
     | false =>
      have hj1:∀ i,i < j + 1 → isNo (xs (must.getD i 0)) = false:=fun i hi=>by
       by_cases h:i < j
       ·exact HND.out i h
       ·obtain rfl:i = j:=by omega
        rw [HPP.out]; exact hno
      have HND1:=Lib.hid hj1
      have hw2:=HWX.out.trans (kb.mono HWX.out.size)
      clear hj1 kb HND hno II HWX
      go_wp2_with fail
      go_roundg g'
      case measure=>omega
      case rel=>exact ⟨j + 1,by go_num,hw2,HND1,by omega,by omega⟩
    ·have hge:¬ (j:Int) < (m:Int):=by omega
     obtain rfl:j = m:=by omega
     have hany:must.any (fun i=>isNo (xs i)) = false:=by
      rw [Bool.eq_false_iff]
      intro h
      obtain ⟨x,hx,h2⟩:=List.any_eq_true.1 h
      obtain ⟨i,hi,rfl⟩:=List.mem_iff_getElem.1 hx
      have h3:=HND.out i (by rw [← HN.out.2]; exact hi)
      rw [List.getD_eq_getElem?_getD,List.getElem?_eq_getElem hi] at h3
      rw [Option.getD_some,h2] at h3
      exact absurd h3 (by simp)
     have hPk:P = .ok xs:=by
      rw [HP2.out]
      show (if must.any (fun i=>isNo (xs i)) = true then _ else _) = _
      rw [hany,if_neg (by simp)]
     have hsm:=HI.out.2.2.2.2.2.2.1
     have h1l:=one_all vv
     obtain ⟨v0,v1,v2,v3,v4,v5,v6,v7,v8,v9,v10,rfl⟩:=eleven vv.len
     have hb4:w.heap.size + 4 ≤ wr.heap.size:=Nat.le_trans HI.out.2.2.2.2.2.2.2 hwx.size
     have hch:Blk.Chg (fun q=>q < w.heap.size + 4) wr ((wr.setRow (w.heap.size + 1) #[v0,v1,v2,v3,v4,v5,v6,v7,v8,v9,v10]).setRow (w.heap.size + 1 + 1) #[.int .i64 0,.int .i64 0]):=((Blk.Chg.refl _ wr).setRow (by show w.heap.size + 1 < w.heap.size + 4; omega) _).setRow (by show w.heap.size + 1 + 1 < w.heap.size + 4; omega) _
     have hvz:=vv.on hch
     have hbz:Below w.heap.size w ((wr.setRow (w.heap.size + 1) #[v0,v1,v2,v3,v4,v5,v6,v7,v8,v9,v10]).setRow (w.heap.size + 1 + 1) #[.int .i64 0,.int .i64 0]):=Va.below_row (Va.below_row hb (by omega) _) (by omega) _
     have ha:=i2.rowOther (g:=w.heap.size + 1) #[v0,v1,v2,v3,v4,v5,v6,v7,v8,v9,v10] (by omega)
     have hr1:=(i1.row #[v0,v1,v2,v3,v4,v5,v6,v7,v8,v9,v10]).rowOther (g:=w.heap.size + 1 + 1) #[.int .i64 0,.int .i64 0] (by omega)
     have hr2:=ha.row #[.int .i64 0,.int .i64 0]
     have RG:=Lib.hid (range_vals i3)
     have I1:=Lib.hid i1
     have HA:=Lib.hid ha
     clear i0 i1 i2 i3 vv hb ha HI HND HMB HP2 HMU HN hany hch hb4
     go_wp2_with (first | (refine BigFrame.wpList_want rfl fun KK hKK=>wp_load_mid 99 (.tmp 8) rfl (w.heap.size + 1 + 1 + 1) 0 rfl #[v0,v1,v2,v3,v4,v5,v6,v7,v8,v9,v10].toList _ RG.out valsD rfl SZ.out (hKK _ _ ?_)) | (refine wpList_store_row rfl 99 (.tmp 6) (.tmp 66) rfl (w.heap.size + 1) #[v0,v1,v2,v3,v4,v5,v6,v7,v8,v9,v10] rfl rfl 99 nils I1.out hTi (by rfl) h1l ?_) | (refine wpList_store_row rfl 45 (.tmp 7) (.tmp 67) rfl (w.heap.size + 1 + 1) #[.int .i64 0,.int .i64 0] rfl rfl 45 #[.int .i64 0,.int .i64 0] HA.out hTa (by rfl) (by simp [Value.oneCell']) ?_))
     generalize ((wr.setRow (w.heap.size + 1) #[v0,v1,v2,v3,v4,v5,v6,v7,v8,v9,v10]).setRow (w.heap.size + 1 + 1) #[.int .i64 0,.int .i64 0]) = wz at *
     have r0:=hr1.at (i:=0) rfl
     have r1:=hr1.at (i:=1) rfl
     have r2:=hr1.at (i:=2) rfl
     have r3:=hr1.at (i:=3) rfl
     have r4:=hr1.at (i:=4) rfl
     have r5:=hr1.at (i:=5) rfl
     have r6:=hr1.at (i:=6) rfl
     have r7:=hr1.at (i:=7) rfl
     have r8:=hr1.at (i:=8) rfl
     have r9:=hr1.at (i:=9) rfl
     have r10:=hr1.at (i:=10) rfl
     have a0:=hr2.at (i:=0) rfl
     have a1:=hr2.at (i:=1) rfl
     clear hr1 hr2 I1 HA RG
     refine bodyPost_ret (v:=.tuple #[.agg #[v0,v1,v2,v3,v4,v5,v6,v7,v8,v9,v10],.agg #[.int .i64 0,.int .i64 0]]) ?_ rfl ?_
     ·simp [results,Tryz.results64,go_sem,r0,r1,r2,r3,r4,r5,r6,r7,r8,r9,r10,a0,a1]
     ·exact ⟨_,xs,_,_,rfl,hvz.mono (by omega),hsm,hbz,by first | exact ⟨rfl,rfl,rfl⟩ | (rw [hPk]; exact ⟨rfl,rfl,rfl⟩)⟩
end Rc
end Go.Proofs.YthmpepnikmdjpaaGreatDoor

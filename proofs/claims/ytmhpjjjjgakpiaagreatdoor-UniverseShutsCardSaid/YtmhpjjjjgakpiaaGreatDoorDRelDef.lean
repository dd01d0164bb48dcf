/-
Versions as lists of bytes: parts as rows of numbers, which row is earlier, what a version's parts are. No program is named here. The small functions of package version and of its reference: signs, their places, how many bytes are of digits. Relations as lists of bytes: how an atom, a clause, a relation is read, by the code's way and by the reference's; that both tell the same. No program is named here. How atoms, clauses, relations are written, as lists of bytes. No program is named here.
-/
import Derived.WalkKit
import Derived.Lib.Bytealg
import Derived.Test.YtmhpjjjjgakpiaaGreatDoorProg
import Derived.Test.YtmhpjjjjgakpiaaGreatDoorDTextUtf
import Derived.ProofKit
import Derived.Below
import Derived.Deep.Draws
import Derived.Lib.Hide
import Derived.Deep.LoopGhost
import Derived.Lib.OthersKept
import Derived.Lib.Join
namespace Go.Proofs.YtmhpjjjjgakpiaaGreatDoor
set_option linter.unusedSimpArgs false
set_option linter.unusedVariables false
namespace Ver
abbrev Bs:=List UInt8
def dig (c:UInt8):Bool:=decide (48 ≤ c) && decide (c ≤ 57)
def alf (c:UInt8):Bool:=(decide (97 ≤ c) && decide (c ≤ 122)) || (decide (65 ≤ c) && decide (c ≤ 90))
def rk (c:UInt8):Int:=if c = 126 then -1 else if alf c then 1 + (c.toNat:Int) else 300 + (c.toNat:Int)
def dv (c:UInt8):Nat:=c.toNat - 48
def key:Option Nat → Bs → List Int
 | none,[]=>[]
 | some v,[]=>[(v:Int)]
 | none,c :: r=>if dig c then 0 :: key (some (dv c)) r else rk c :: key none r
 | some v,c :: r=>if dig c then key (some (10 * v + dv c)) r else (v:Int) :: rk c :: key none r
def sgn (x y:Int):Int:=if x < y then -1 else if y < x then 1 else 0
def orr (p q:Int):Int:=if p ≠ 0 then p else q
def lex0:List Int → Int
 | []=>0
 | y :: ys=>orr (sgn 0 y) (lex0 ys)
def lex:List Int → List Int → Int
 | [],ys=>lex0 ys
 | x :: xs,[]=>orr (sgn x 0) (lex xs [])
 | x :: xs,y :: ys=>orr (sgn x y) (lex xs ys)
theorem lex_nn:lex [] [] = 0:=rfl
theorem lex_nc (y:Int) (ys:List Int):lex [] (y :: ys) = orr (sgn 0 y) (lex [] ys):=rfl
theorem lex_cn (x:Int) (xs:List Int):lex (x :: xs) [] = orr (sgn x 0) (lex xs []):=rfl
theorem lex_cc (x y:Int) (xs ys:List Int):lex (x :: xs) (y :: ys) = orr (sgn x y) (lex xs ys):=rfl
def part (a b:Bs):Int:=lex (key none a) (key none b)
/-! ### an order -/
theorem sgn_self (x:Int):sgn x x = 0:=by unfold sgn; simp
theorem sgn_turn (x y:Int):sgn y x = - sgn x y:=by unfold sgn; repeat' split
                                                   all_goals omega
theorem orr_turn (p q:Int):orr (-p) (-q) = - orr p q:=by unfold orr; repeat' split
                                                         all_goals omega
theorem orr_zero (q:Int):orr 0 q = q:=by simp [orr]
theorem lex_turn:∀ x y:List Int,lex y x = - lex x y
 | [],[]=>by simp [lex_nn]
 | [],y :: ys=>by rw [lex_nc,lex_cn,lex_turn [] ys,sgn_turn 0 y,orr_turn]
 | x :: xs,[]=>by rw [lex_nc,lex_cn,lex_turn xs [],sgn_turn x 0,orr_turn]
 | x :: xs,y :: ys=>by rw [lex_cc,lex_cc,lex_turn xs ys,sgn_turn x y,orr_turn]
def Tri (p q r:Int):Prop:=(p = 0 → r = q) ∧ (q = 0 → r = p) ∧ (p = q → r = p)
theorem Tri.or {p q r p' q' r':Int} (h:Tri p q r) (h':Tri p' q' r'):Tri (orr p p') (orr q q') (orr r r'):=by
 obtain ⟨h1,h2,h3⟩:=h
 obtain ⟨k1,k2,k3⟩:=h'
 unfold orr
 refine ⟨?_,?_,?_⟩ <;> (repeat' split) <;> omega
theorem tri_sgn (x y z:Int):Tri (sgn x y) (sgn y z) (sgn x z):=by
 unfold sgn
 refine ⟨?_,?_,?_⟩ <;> (repeat' split) <;> omega
theorem lex_tri:∀ x y z:List Int,Tri (lex x y) (lex y z) (lex x z)
 | [],[],[]=>⟨fun _=>rfl,fun _=>rfl,fun _=>rfl⟩
 | [],[],z :: zs=>by
  have:=(tri_sgn 0 0 z).or (lex_tri [] [] zs)
  simpa [lex_nn,lex_nc,lex_cn,sgn_self,orr_zero] using this
 | [],y :: ys,[]=>by
  have:=(tri_sgn 0 y 0).or (lex_tri [] ys [])
  simpa [lex_nn,lex_nc,lex_cn,sgn_self,orr_zero] using this
 | x :: xs,[],[]=>by
  have:=(tri_sgn x 0 0).or (lex_tri xs [] [])
  simpa [lex_nn,lex_nc,lex_cn,sgn_self,orr_zero] using this
 | [],y :: ys,z :: zs=>(tri_sgn 0 y z).or (lex_tri [] ys zs)
 | x :: xs,[],z :: zs=>(tri_sgn x 0 z).or (lex_tri xs [] zs)
 | x :: xs,y :: ys,[]=>(tri_sgn x y 0).or (lex_tri xs ys [])
 | x :: xs,y :: ys,z :: zs=>(tri_sgn x y z).or (lex_tri xs ys zs)
def One (p:Int):Prop:=p = -1 ∨ p = 0 ∨ p = 1
theorem one_sgn (x y:Int):One (sgn x y):=by unfold sgn One; repeat' split
                                            all_goals simp
theorem One.or {p q:Int} (h:One p) (k:One q):One (orr p q):=by unfold orr; split
                                                               ·exact h
                                                               ·exact k
theorem one_lex:∀ x y:List Int,One (lex x y)
 | [],[]=>.inr (.inl rfl)
 | [],y :: ys=>(one_sgn _ _).or (one_lex [] ys)
 | x :: xs,[]=>(one_sgn _ _).or (one_lex xs [])
 | x :: xs,y :: ys=>(one_sgn _ _).or (one_lex xs ys)
/-! ### rows side by side -/
theorem lex_pad:∀ x z:List Int,lex (x ++ [0]) z = lex x z
 | [],[]=>rfl
 | [],z :: zs=>by
  simp only [List.nil_append,lex_cc,lex_nc]
 | x :: xs,[]=>by
  simp only [List.cons_append,lex_cn,lex_pad xs []]
 | x :: xs,z :: zs=>by
  simp only [List.cons_append,lex_cc,lex_pad xs zs]
theorem lex_pads (x z:List Int):lex (x ++ [0,0]) z = lex x z:=by
 rw [show x ++ [0,0] = (x ++ [0]) ++ [0] by simp,lex_pad,lex_pad]
theorem rk_ne (c:UInt8):rk c ≠ 0:=by unfold rk; repeat' split
                                     all_goals omega
theorem sgn_ne {x y:Int} (h:x ≠ y):sgn x y ≠ 0:=by unfold sgn; repeat' split
                                                   all_goals omega
theorem orr_ne {p:Int} (h:p ≠ 0) (q:Int):orr p q = p:=by unfold orr; rw [if_pos h]
theorem orr_orr (p q r:Int):orr (orr p q) r = orr p (orr q r):=by
 unfold orr; by_cases h:p = 0 <;> simp [h]
theorem lex_sides:∀ (x y:List Int) (k l:List Int),(∀ v ∈ x,v ≠ 0) → (∀ v ∈ y,v ≠ 0) → lex (x ++ 0 :: k) (y ++ 0 :: l) = orr (lex x y) (lex k l)
 | [],[],k,l,_,_=>by simp [lex_cc,lex_nn,sgn_self,orr_zero]
 | [],y :: ys,k,l,_,hy=>by
  have h:=sgn_ne (x:=0) (y:=y) (Ne.symm (hy y (.head _)))
  simp only [List.nil_append,List.cons_append,lex_cc,lex_nc,orr_ne h]
 | x :: xs,[],k,l,hx,_=>by
  have h:=sgn_ne (x:=x) (y:=0) (hx x (.head _))
  simp only [List.nil_append,List.cons_append,lex_cc,lex_cn,orr_ne h]
 | x :: xs,y :: ys,k,l,hx,hy=>by
  simp only [List.cons_append,lex_cc,lex_sides xs ys k l (fun v h=>hx v (.tail _ h)) (fun v h=>hy v (.tail _ h)),orr_orr]
/-! ### a part's pieces -/
def val (v:Nat) (l:Bs):Nat:=l.foldl (fun v c=>10 * v + dv c) v
theorem val_nil (v:Nat):val v [] = v:=rfl
theorem val_cons (v:Nat) (c:UInt8) (r:Bs):val v (c :: r) = val (10 * v + dv c) r:=by unfold val; rw [List.foldl_cons]
theorem val_first (c:UInt8) (r:Bs):val 0 (c :: r) = val (dv c) r:=by rw [val_cons,Nat.mul_zero,Nat.zero_add]
theorem key_val:∀ (d r:Bs) (v:Nat),(∀ c ∈ d,dig c = true) → key (some v) (d ++ r) = key (some (val v d)) r
 | [],_,_,_=>rfl
 | c :: d,r,v,h=>by
  rw [List.cons_append,key,if_pos (h c (.head _)),key_val d r _ fun x hx=>h x (.tail _ hx),val_cons]
theorem key_signs:∀ (x r:Bs),(∀ c ∈ x,dig c = false) → key none (x ++ r) = x.map rk ++ key none r
 | [],_,_=>rfl
 | c :: x,r,h=>by
  rw [List.cons_append,key,h c (.head _),if_neg (by simp),key_signs x r fun y hy=>h y (.tail _ hy)]
  rfl
def headNo (p:UInt8 → Bool):Bs → Prop
 | []=>True
 | c :: _=>p c = false
theorem lex_pieces (x d r:Bs) (z:List Int) (hx:∀ c ∈ x,dig c = false) (hd:∀ c ∈ d,dig c = true) (hr:headNo dig r) (he:d = [] → r = []) :
  lex (key none (x ++ (d ++ r))) z = lex (x.map rk ++ 0 :: ((val 0 d:Nat):Int) :: key none r) z:=by
 rw [key_signs _ _ hx]
 cases d with
 | nil =>
  rw [he rfl]
  show lex (x.map rk ++ []) z = lex (x.map rk ++ [0,0]) z
  rw [lex_pads,List.append_nil]
 | cons c d =>
  rw [List.cons_append,key,if_pos (hd c (.head _)),key_val d r _ fun y hy=>hd y (.tail _ hy)]
  rw [val_first]
  cases r with
  | nil=>rfl
  | cons q r =>
   have hq:dig q = false:=hr
   rw [key,hq,key,hq]
   simp
theorem lex_pieces2 (x d r:Bs) (z:List Int) (hx:∀ c ∈ x,dig c = false) (hd:∀ c ∈ d,dig c = true) (hr:headNo dig r) (he:d = [] → r = []) :
  lex z (key none (x ++ (d ++ r))) = lex z (x.map rk ++ 0 :: ((val 0 d:Nat):Int) :: key none r):=by
 rw [lex_turn (key none (x ++ (d ++ r))) z,lex_pieces x d r z hx hd hr he,← lex_turn]
theorem part_round (x d r y f s:Bs) (hx:∀ c ∈ x,dig c = false) (hd:∀ c ∈ d,dig c = true) (hr:headNo dig r) (he:d = [] → r = [])
  (hy:∀ c ∈ y,dig c = false) (hf:∀ c ∈ f,dig c = true) (hs:headNo dig s) (hg:f = [] → s = []) :
  part (x ++ (d ++ r)) (y ++ (f ++ s)) = orr (lex (x.map rk) (y.map rk)) (orr (sgn (val 0 d) (val 0 f)) (part r s)):=by
 unfold part
 rw [lex_pieces x d r _ hx hd hr he,lex_pieces2 y f s _ hy hf hs hg,lex_sides _ _ _ _ (fun v h=>?_) (fun v h=>?_)]
 ·rfl
 ·obtain ⟨c,_,rfl⟩:=List.mem_map.1 h; exact rk_ne c
 ·obtain ⟨c,_,rfl⟩:=List.mem_map.1 h; exact rk_ne c
/-! ### rows of digits -/
def nought (c:UInt8):Bool:=decide (c = 48)
def strip:Bs → Bs
 | []=>[]
 | c :: r=>if c = 48 then strip r else c :: r
theorem val_strip:∀ d:Bs,val 0 (strip d) = val 0 d
 | []=>rfl
 | c :: d=>by
  unfold strip
  by_cases h:c = 48
  ·subst h; rw [if_pos rfl,val_strip d,val_first]; rfl
  ·rw [if_neg h]
theorem dv_lt {c:UInt8} (h:dig c = true):dv c < 10:=by
 have h1:=UInt8.toNat_lt c
 unfold dig at h
 simp [UInt8.le_iff_toNat_le] at h
 unfold dv; omega
theorem dv_pos {c:UInt8} (h:dig c = true) (h0:c ≠ 48):0 < dv c:=by
 unfold dig at h
 simp [UInt8.le_iff_toNat_le] at h
 have:c.toNat ≠ 48:=fun e=>h0 (UInt8.toNat_inj.1 (by simpa using e))
 unfold dv; omega
theorem val_lt:∀ (d f:Bs) (v u:Nat),d.length = f.length → (∀ c ∈ d,dig c = true) → v < u → val v d < val u f
 | [],[],_,_,_,_,h=>h
 | c :: d,e :: f,v,u,hl,hd,h=>by
  have hc:=dv_lt (hd c (.head _))
  rw [val_cons,val_cons]
  exact val_lt d f _ _ (by simpa using hl) (fun x hx=>hd x (.tail _ hx)) (by omega)
 | [],_ :: _,_,_,hl,_,_=>by simp at hl
 | _ :: _,[],_,_,hl,_,_=>by simp at hl
theorem val_same:∀ (d f:Bs) (v:Nat),d.length = f.length → (∀ c ∈ d,dig c = true) → (∀ c ∈ f,dig c = true) → sgn (val v d) (val v f) = Lib.compareBytes d f
 | [],[],v,_,_,_=>by rw [sgn_self]; rfl
 | c :: d,e :: f,v,hl,hd,hf=>by
  have hl':d.length = f.length:=by simpa using hl
  have h1:=hd c (.head _)
  have h2:=hf e (.head _)
  unfold dig at h1 h2
  simp [UInt8.le_iff_toNat_le] at h1 h2
  rw [Lib.compareBytes,val_cons,val_cons]
  by_cases hlt:c < e
  ·rw [if_pos hlt]
   have k:dv c < dv e:=by have:=UInt8.lt_iff_toNat_lt.1 hlt; unfold dv; omega
   have:=val_lt d f (10 * v + dv c) (10 * v + dv e) hl' (fun x hx=>hd x (.tail _ hx)) (by omega)
   unfold sgn; rw [if_pos (by omega)]
  ·rw [if_neg hlt]
   by_cases hgt:e < c
   ·rw [if_pos hgt]
    have k:dv e < dv c:=by have:=UInt8.lt_iff_toNat_lt.1 hgt; unfold dv; omega
    have:=val_lt f d (10 * v + dv e) (10 * v + dv c) hl'.symm (fun x hx=>hf x (.tail _ hx)) (by omega)
    unfold sgn; rw [if_neg (by omega),if_pos (by omega)]
   ·rw [if_neg hgt]
    have:c = e:=UInt8.toNat_inj.1 (by have a:=mt UInt8.lt_iff_toNat_lt.2 hlt; have b:=mt UInt8.lt_iff_toNat_lt.2 hgt; omega)
    subst this
    exact val_same d f _ hl' (fun x hx=>hd x (.tail _ hx)) (fun x hx=>hf x (.tail _ hx))
 | [],_ :: _,_,hl,_,_=>by simp at hl
 | _ :: _,[],_,hl,_,_=>by simp at hl
theorem val_up:∀ (d:Bs) (v:Nat),v * 10 ^ d.length ≤ val v d
 | [],v=>by simp [val_nil]
 | c :: d,v=>by
  have:=val_up d (10 * v + dv c)
  rw [val_cons,List.length_cons,Nat.pow_succ]
  refine Nat.le_trans ?_ this
  rw [Nat.mul_comm (10 ^ d.length) 10,← Nat.mul_assoc,Nat.mul_comm v 10]
  exact Nat.mul_le_mul_right _ (by omega)
theorem val_down:∀ (d:Bs) (v:Nat),(∀ c ∈ d,dig c = true) → val v d < (v + 1) * 10 ^ d.length
 | [],v,_=>by simp [val_nil]
 | c :: d,v,h=>by
  have:=val_down d (10 * v + dv c) fun x hx=>h x (.tail _ hx)
  have hc:=dv_lt (h c (.head _))
  rw [val_cons,List.length_cons,Nat.pow_succ]
  refine Nat.lt_of_lt_of_le this ?_
  rw [Nat.mul_comm (10 ^ d.length) 10,← Nat.mul_assoc]
  exact Nat.mul_le_mul_right _ (by omega)
theorem val_short {d f:Bs} (hd:∀ c ∈ d,dig c = true) (hf:∀ c ∈ f,dig c = true) (h0:headNo nought f) (hl:d.length < f.length):val 0 d < val 0 f:=by
 have h1:=val_down d 0 hd
 cases f with
 | nil=>simp at hl
 | cons c f =>
  have hc:c ≠ 48:=by simpa [headNo,nought] using h0
  have h2:=val_up f (dv c)
  have h3:=dv_pos (hf c (.head _)) hc
  have h4:10 ^ d.length ≤ 10 ^ f.length:=Nat.pow_le_pow_right (by omega) (by simp at hl; omega)
  have h5:1 * 10 ^ f.length ≤ dv c * 10 ^ f.length:=Nat.mul_le_mul_right _ (by omega)
  rw [val_first]
  omega
theorem strip_head:∀ d:Bs,headNo nought (strip d)
 | []=>trivial
 | c :: d=>by
  unfold strip
  by_cases h:c = 48
  ·rw [if_pos h]; exact strip_head d
  ·rw [if_neg h]; simp [headNo,nought,h]
theorem strip_sub:∀ d:Bs,∀ c ∈ strip d,c ∈ d
 | [],_,h=>h
 | x :: d,c,h=>by
  unfold strip at h
  by_cases e:x = 48
  ·rw [if_pos e] at h; exact .tail _ (strip_sub d c h)
  ·rwa [if_neg e] at h
def numB (a b:Bs):Int:=orr (sgn (strip a).length (strip b).length) (Lib.compareBytes (strip a) (strip b))
theorem num_val {d f:Bs} (hd:∀ c ∈ d,dig c = true) (hf:∀ c ∈ f,dig c = true):numB d f = sgn (val 0 d) (val 0 f):=by
 rw [← val_strip d,← val_strip f]
 have hd':∀ c ∈ strip d,dig c = true:=fun c h=>hd c (strip_sub d c h)
 have hf':∀ c ∈ strip f,dig c = true:=fun c h=>hf c (strip_sub f c h)
 unfold numB
 by_cases h1:(strip d).length < (strip f).length
 ·have:=val_short hd' hf' (strip_head f) h1
  rw [show sgn ((strip d).length:Int) (strip f).length = -1 by unfold sgn; rw [if_pos (by omega)],show sgn (val 0 (strip d):Int) (val 0 (strip f)) = -1 by unfold sgn; rw [if_pos (by omega)]]
  rfl
 ·by_cases h2:(strip f).length < (strip d).length
  ·have:=val_short hf' hd' (strip_head d) h2
   rw [show sgn ((strip d).length:Int) (strip f).length = 1 by unfold sgn; rw [if_neg (by omega),if_pos (by omega)],show sgn (val 0 (strip d):Int) (val 0 (strip f)) = 1 by unfold sgn; rw [if_neg (by omega),if_pos (by omega)]]
   rfl
  ·rw [val_same _ _ 0 (by omega) hd' hf',show sgn ((strip d).length:Int) (strip f).length = 0 by unfold sgn; rw [if_neg (by omega),if_neg (by omega)],orr_zero]
theorem part_digits {d f:Bs} (hd:∀ c ∈ d,dig c = true) (hf:∀ c ∈ f,dig c = true):part d f = sgn (val 0 d) (val 0 f):=by
 have:=part_round [] d [] [] f [] (fun _ h=>by cases h) hd trivial (fun _=>rfl) (fun _ h=>by cases h) hf trivial (fun _=>rfl)
 simp only [List.nil_append,List.append_nil,List.map_nil] at this
 rw [this]
 have e:part [] [] = 0:=rfl
 rw [e]
 show orr (lex [] []) (orr _ 0) = _
 rw [show lex [] [] = 0 from rfl,orr_zero]
 unfold orr; split <;> omega
/-! ### versions -/
def sig (c:UInt8):Bool:=alf c || dig c || decide (c = 43) || decide (c = 46) || decide (c = 126)
def ups (c:UInt8):Bool:=sig c || decide (c = 45) || decide (c = 58)
def cut1 (x:UInt8):Bs → Option (Bs × Bs)
 | []=>none
 | c :: r=>if c = x then some ([],r) else (cut1 x r).map fun p=>(c :: p.1,p.2)
def cutZ (x:UInt8):Bs → Option (Bs × Bs)
 | []=>none
 | c :: r=>match cutZ x r with
  | some p=>some (c :: p.1,p.2)
  | none=>if c = x then some ([],r) else none
def upOK (u:Bs):Bool:=match u with
 | []=>false
 | c :: _=>dig c && u.all ups
def epochOf (s:Bs):Option (Bs × Bs):=match cut1 58 s with
 | none=>some ([48],s)
 | some (e,r)=>if 1 ≤ e.length ∧ e.length ≤ 9 ∧ e.all dig = true then some (e,r) else none
def revOf (s:Bs):Option (Bs × Bs):=match cutZ 45 s with
 | none=>some (s,[])
 | some (u,v)=>if v ≠ [] ∧ v.all sig = true then some (u,v) else none
def parse (s:Bs):Option (Bs × Bs × Bs) :=
 if 1 ≤ s.length ∧ s.length ≤ 48 then
  match epochOf s with
  | none=>none
  | some (e,r)=>match revOf r with
   | none=>none
   | some (u,v)=>if upOK u = true then some (e,u,v) else none
 else none
def cmpP (p q:Bs × Bs × Bs):Int:=orr (part p.1 q.1) (orr (part p.2.1 q.2.1) (part p.2.2 q.2.2))
def cmpV (a b:Bs):Int:=match parse a,parse b with
 | some p,some q=>cmpP p q
 | _,_=>0
end Ver
end Go.Proofs.YtmhpjjjjgakpiaaGreatDoor
namespace Go.Proofs.YtmhpjjjjgakpiaaGreatDoor
open Go.RowKit
set_option linter.unusedSimpArgs false
set_option linter.unusedVariables false
namespace Ver
open Txt (b dec_low dec_high sz on_iff)
abbrev li (s:ByteArray):Bs:=s.data.toList
theorem li_len (s:ByteArray):(li s).length = s.size:=by rw [Array.length_toList]; rfl
theorem li_drop (s:ByteArray) (k:Nat) (h:k < s.size):∃ c,(li s).drop k = c :: (li s).drop (k + 1) ∧ c.toNat = b s k:=by
 have hl:k < s.data.toList.length:=by rw [Array.length_toList]; exact h
 refine ⟨s.data.toList[k],List.drop_eq_getElem_cons hl,?_⟩
 unfold b
 rw [dif_pos h]
 rfl
theorem li_ext (s:ByteArray) (i j:Nat) (h:j ≤ s.size):li (s.extract i j) = ((li s).drop i).take (j - i):=by
 show (s.extract i j).data.toList = _
 rw [ByteArray.data_extract,Array.toList_extract]
theorem li_ext_end (s:ByteArray) (i:Nat):li (s.extract i s.size) = (li s).drop i:=by
 rw [li_ext s i s.size (Nat.le_refl _),List.take_of_length_le]
 rw [List.length_drop,li_len]; exact Nat.le_refl _
theorem li_ext_zero (s:ByteArray) (j:Nat) (h:j ≤ s.size):li (s.extract 0 j) = (li s).take j:=by
 rw [li_ext s 0 j h,List.drop_zero,Nat.sub_zero]
/-! ### signs by their numbers -/
def digN (c:Nat):Bool:=decide (48 ≤ c) && decide (c ≤ 57)
def smlN (c:Nat):Bool:=decide (97 ≤ c) && decide (c ≤ 122)
def alfN (c:Nat):Bool:=smlN c || (decide (65 ≤ c) && decide (c ≤ 90))
def sigN (c:Nat):Bool:=alfN c || digN c || decide (c = 43) || decide (c = 46) || decide (c = 126)
def upsN (c:Nat):Bool:=sigN c || decide (c = 45) || decide (c = 58)
theorem dig_n (c:UInt8):dig c = digN c.toNat:=by unfold dig digN; simp [UInt8.le_iff_toNat_le]
theorem alf_n (c:UInt8):alf c = alfN c.toNat:=by unfold alf alfN smlN; simp [UInt8.le_iff_toNat_le]
theorem sig_n (c:UInt8):sig c = sigN c.toNat:=by unfold sig sigN; rw [alf_n,dig_n]; simp [← UInt8.toNat_inj]
theorem ups_n (c:UInt8):ups c = upsN c.toNat:=by unfold ups upsN; rw [sig_n]; simp [← UInt8.toNat_inj]
theorem ret_bool {a b:Bool} {w:World} (h:a = true ↔ b = true):Ending.returned (Value.bool a) = Ending.returned (.bool b) ∧ w = w:=⟨by rw [Bool.eq_iff_iff.2 h],rfl⟩
theorem isDigit_any (r:Nat) (w:World):Calls Tryz.prog 175 #[.int .i32 r] w fun e w'=>e = .returned (.bool (digN r)) ∧ w' = w:=by
 go_enter Tryz.func175,Tryz.ntmps175
 go_wp2_with fail
 all_goals
  go_ret
  refine ret_bool ?_
  simp [digN]
  try omega
theorem isLetter_any (r:Nat) (w:World):Calls Tryz.prog 188 #[.int .i32 r] w fun e w'=>e = .returned (.bool (alfN r)) ∧ w' = w:=by
 go_enter Tryz.func188,Tryz.ntmps188
 go_wp2_with fail
 all_goals
  go_ret
  refine ret_bool ?_
  simp [alfN,smlN]
  try omega
theorem ydigit_any (r:Nat) (w:World):Calls Tryz.prog 83 #[.int .u8 r] w fun e w'=>e = .returned (.bool (digN r)) ∧ w' = w:=by
 go_enter Tryz.func83,Tryz.ntmps83
 go_wp2_with fail
 all_goals
  go_ret
  refine ret_bool ?_
  simp [digN]
  try omega
theorem ysmall_any (r:Nat) (w:World):Calls Tryz.prog 82 #[.int .u8 r] w fun e w'=>e = .returned (.bool (smlN r)) ∧ w' = w:=by
 go_enter Tryz.func82,Tryz.ntmps82
 go_wp2_with fail
 all_goals
  go_ret
  refine ret_bool ?_
  simp [smlN]
  try omega
theorem yletter_any (r:Nat) (w:World):Calls Tryz.prog 108 #[.int .u8 r] w fun e w'=>e = .returned (.bool (alfN r)) ∧ w' = w:=by
 obtain ⟨G,hG⟩:∃ G,smlN r = G:=⟨_,rfl⟩
 have HG:=Lib.hid hG
 have c:=ysmall_any r w
 rw [hG] at c
 clear hG
 go_enter Tryz.func108,Tryz.ntmps108
 go_wp2_with fail
 refine c.mono ?_
 rintro e w' ⟨rfl,rfl⟩
 cases G
 all_goals
  go_wp2_with fail
  all_goals
   go_ret
   refine ret_bool ?_
   simp [alfN,HG.out]
   try omega
theorem isSign_any (r:Nat) (w:World):Calls Tryz.prog 176 #[.int .i32 r] w fun e w'=>e = .returned (.bool (sigN r)) ∧ w' = w:=by
 obtain ⟨G,hG⟩:∃ G,alfN r = G:=⟨_,rfl⟩
 have HG:=Lib.hid hG
 have c:=isLetter_any r w
 rw [hG] at c
 clear hG
 obtain ⟨D,hD⟩:∃ D,digN r = D:=⟨_,rfl⟩
 have HD:=Lib.hid hD
 have d:=isDigit_any r w
 rw [hD] at d
 clear hD
 go_enter Tryz.func176,Tryz.ntmps176
 go_wp2_with fail
 refine c.mono ?_
 rintro e w' ⟨rfl,rfl⟩
 cases G
 ·go_wp2_with fail
  refine d.mono ?_
  rintro e w' ⟨rfl,rfl⟩
  cases D
  all_goals
   go_wp2_with fail
   all_goals
    go_ret
    refine ret_bool ?_
    simp [sigN,HG.out,HD.out]
    try omega
 ·go_wp2_with fail
  go_ret
  refine ret_bool ?_
  simp [sigN,HG.out]
/-! ### how many bytes are of digits -/
def spn (d:Bool):Bs → Nat
 | []=>0
 | c :: r=>if dig c = d then spn d r + 1 else 0
theorem spn_le (d:Bool):∀ l:Bs,spn d l ≤ l.length
 | []=>Nat.le_refl _
 | c :: r=>by
  have:=spn_le d r
  unfold spn; split <;> simp <;> omega
theorem spn_take (d:Bool):∀ l:Bs,∀ c ∈ l.take (spn d l),dig c = d
 | [],c,h=>by simp [spn] at h
 | x :: r,c,h=>by
  unfold spn at h
  by_cases e:dig x = d
  ·rw [if_pos e,List.take_succ_cons] at h
   rcases List.mem_cons.1 h with rfl | h
   ·exact e
   ·exact spn_take d r c h
  ·rw [if_neg e] at h; simp at h
def headIs (d:Bool):Bs → Prop
 | []=>True
 | c :: _=>dig c = d
theorem spn_drop (d:Bool):∀ l:Bs,headIs (!d) (l.drop (spn d l))
 | []=>trivial
 | x :: r=>by
  unfold spn
  by_cases e:dig x = d
  ·rw [if_pos e,List.drop_succ_cons]; exact spn_drop d r
  ·rw [if_neg e,List.drop_zero]
   show dig x = !d
   cases d <;> cases h:dig x <;> simp_all
theorem spn_more {s:ByteArray} {d:Bool} {k N:Nat} (h:k < s.size) (hk:digN (b s k) = d) (hN:k + spn d ((li s).drop k) = N):k + 1 + spn d ((li s).drop (k + 1)) = N:=by
 obtain ⟨c,hc,hb⟩:=li_drop s k h
 rw [hc] at hN
 have:dig c = d:=by rw [dig_n,hb]; exact hk
 unfold spn at hN
 rw [if_pos this] at hN
 omega
theorem spn_stop {s:ByteArray} {d:Bool} {k N:Nat} (h:k < s.size) (hk:digN (b s k) ≠ d) (hN:k + spn d ((li s).drop k) = N):N = k:=by
 obtain ⟨c,hc,hb⟩:=li_drop s k h
 rw [hc] at hN
 have:dig c ≠ d:=by rw [dig_n,hb]; exact hk
 unfold spn at hN
 rw [if_neg this] at hN
 omega
theorem spn_end {s:ByteArray} {d:Bool} {k N:Nat} (h:¬ k < s.size) (hN:k + spn d ((li s).drop k) = N):N = k:=by
 rw [List.drop_eq_nil_of_le (by rw [li_len]; omega)] at hN
 exact hN.symm
theorem spn_jump {s:ByteArray} {N:Nat}:∀ (n k:Nat),k + n ≤ s.size → (∀ j,j < n → 128 ≤ b s (k + j)) → k + spn false ((li s).drop k) = N → k + n + spn false ((li s).drop (k + n)) = N
 | 0,_,_,_,h=>h
 | n + 1,k,h1,h2,h=>by
  have e:=spn_more (by omega) (by have:=h2 0 (by omega); rw [Nat.add_zero] at this; unfold digN; simp; omega) h
  have:=spn_jump n (k + 1) (by omega) (fun j hj=>by have:=h2 (j + 1) (by omega); rwa [show k + (j + 1) = k + 1 + j by omega] at this) e
  rwa [show k + 1 + n = k + (n + 1) by omega] at this
theorem sz_high (s:ByteArray) (i:Nat) (hb:128 ≤ b s i):∀ j,j < sz s i → 128 ≤ b s (i + j):=by
 intro j hj
 unfold sz at hj
 simp only [on_iff] at hj
 have hj4:j = 0 ∨ j = 1 ∨ j = 2 ∨ j = 3:=by
  revert hj
  repeat' split
  all_goals omega
 rcases hj4 with rfl | rfl | rfl | rfl
 ·exact hb
 all_goals
  revert hj
  repeat' split
  all_goals omega
structure Gb (B:Nat) (w w':World):Prop extends Below B w w' where
 drawn:w.drawn ≤ w'.drawn
theorem Gb.refl (B:Nat) (w:World):Gb B w w:=⟨Below.refl B w,Nat.le_refl _⟩
theorem Gb.trans {B:Nat} {a b c:World} (h:Gb B a b) (k:Gb B b c):Gb B a c:=⟨h.toBelow.trans k.toBelow,Nat.le_trans h.drawn k.drawn⟩
theorem Gb.mono {B B':Nat} {w w':World} (h:Gb B w w') (hB:B' ≤ B):Gb B' w w':=⟨h.toBelow.mono hB,h.drawn⟩
theorem Gb.drew {B:Nat} {a w:World} (h:Gb B a w):Gb B a w.drew:=⟨h.toBelow.drew,Nat.le_trans h.drawn (Nat.le_succ _)⟩
theorem Gb.alloc {B:Nat} {a w:World} (h:Gb B a w) (hB:B ≤ w.heap.size) (o:Obj):Gb B a (w.alloc o):=⟨h.toBelow.alloc hB o,h.drawn⟩
theorem Gb.iterAt {B:Nat} {a w:World} (h:Gb B a w) {k:Nat} (hk:B ≤ k) (s:ByteArray) (p:Nat):Gb B a (w.iterAt k s p):=⟨Lib.below_iterAt h.toBelow hk s p,h.drawn⟩
theorem gb_drewN (w:World):∀ n,Gb w.heap.size w (w.drewN n)
 | 0=>Gb.refl _ _
 | n + 1=>⟨⟨rfl,rfl,rfl,Nat.le_refl _,fun _ _=>rfl⟩,Nat.le_add_right _ _⟩
set_option maxRecDepth 100000 in
set_option maxHeartbeats 2000000 in
theorem span_gb (s:ByteArray) (d:Bool) (w:World) (hs:s.size ≤ 9223372036854775807) :
  Calls Tryz.prog 159 #[.string s,.bool d] w fun e w'=>e = .returned (.int .i64 (spn d (li s))) ∧ Gb w.heap.size w w':=by
 obtain ⟨G,hG⟩:∃ G,spn d (li s) = G:=⟨_,rfl⟩
 have HG:=Lib.hid hG
 rw [hG]
 clear hG
 go_enter Tryz.func159,Tryz.ntmps159
 go_wp2
 go_loopg [] s.size (fun gf wx=>∃ pos:Nat,wx.heap[w.heap.size]? = some (.stringIter s pos) ∧ Gb w.heap.size w wx ∧ Hid (pos + spn d ((li s).drop pos) = G) ∧ s.size ≤ pos + gf ∧ pos ≤ s.size)
 case atStart=>exact ⟨0,World.iter_heap w s 0,(Gb.refl _ _).alloc (Nat.le_refl _) _,(by rw [List.drop_zero,Nat.zero_add]; exact HG.out),by omega,by omega⟩
 case round =>
  obtain ⟨pos,hit,hbw,HN,hfu,hps⟩:=hrel
  by_cases hlt:pos < s.size
  ·obtain ⟨g',rfl⟩:∃ g',gk = g' + 1:=⟨gk - 1,by omega⟩
   have hnx:∀ ty,(Instr.next (.pointer (some ⟨w.heap.size,0,none⟩)) true ty).run Tryz.prog wr = _:=fun ty=>Lib.run_next_any_at wr w.heap.size s pos ty hit hlt
   obtain ⟨W,hW⟩:∃ W,wr.iterAt w.heap.size s (pos + (Utf8.decode s pos).2) = W:=⟨_,rfl⟩
   have hit2:=Lib.iterAt_heap wr w.heap.size s pos (pos + (Utf8.decode s pos).2) hit
   have hbw2:=hbw.iterAt (k:=w.heap.size) (Nat.le_refl _) s (pos + (Utf8.decode s pos).2)
   rw [hW] at hnx hit2 hbw2
   clear hW hit hbw
   by_cases hb:b s pos < 128
   ·rw [dec_low s pos hlt hb] at hnx hit2
    have hm:=fun h=>spn_more hlt h HN.out
    have ht:=fun h=>spn_stop hlt h HN.out
    obtain ⟨c,hc⟩:∃ c,b s pos = c:=⟨_,rfl⟩
    rw [hc] at hnx hb hm ht
    clear hc
    go_wp2_with fail
    refine (isDigit_any _ _).mono ?_
    rintro e w' ⟨rfl,rfl⟩
    by_cases hd:digN c = d
    ·have HM:=Lib.hid (hm hd)
     rw [hd]
     clear hm ht hd HN
     go_wp2_with fail
     go_roundg g'
     case measure=>omega
     case rel=>exact ⟨pos + 1,hit2,hbw2,HM,by omega,by omega⟩
    ·obtain rfl:=ht hd
     have hne:(digN c == d) = false:=by cases d <;> cases h:digN c <;> simp_all
     clear hm ht hd HN HG
     go_wp2_with fail
     go_ret
     exact ⟨rfl,hbw2⟩
   ·have hno:digN (b s pos) = false:=by unfold digN; simp; omega
    have hr:digN (Utf8.decode s pos).1 = false:=by
     rcases dec_high s pos hlt (by omega) with ⟨_,hd⟩ | ⟨_,_,_,hr⟩
     ·rw [hd]; decide
     ·unfold digN; simp; omega
    have hstep:∃ n,0 < n ∧ (Utf8.decode s pos).2 = n ∧ pos + n ≤ s.size ∧ ∀ j,j < n → 128 ≤ b s (pos + j):=by
     rcases dec_high s pos hlt (by omega) with ⟨_,hd⟩ | ⟨h1,h2,h3,_⟩
     ·exact ⟨1,by omega,by rw [hd],by omega,fun j hj=>by rw [show j = 0 by omega,Nat.add_zero]; omega⟩
     ·exact ⟨sz s pos,by omega,h3,h2,sz_high s pos (by omega)⟩
    obtain ⟨n,hn0,hn,hnle,hnall⟩:=hstep
    obtain ⟨R,hR⟩:∃ R,(Utf8.decode s pos).1 = R:=⟨_,rfl⟩
    rw [hR] at hnx hr
    rw [hn] at hit2
    clear hR hn
    cases d
    ·have HM:=Lib.hid (spn_jump n pos hnle hnall HN.out)
     clear HN hnall hno HG
     go_wp2_with fail
     refine (isDigit_any _ _).mono ?_
     rintro e w' ⟨rfl,rfl⟩
     rw [hr]
     go_wp2_with fail
     go_roundg g'
     case measure=>omega
     case rel=>exact ⟨pos + n,hit2,hbw2,HM,by omega,by omega⟩
    ·obtain rfl:=spn_stop hlt (by rw [hno]; simp) HN.out
     clear HN hnall hno HG
     go_wp2_with fail
     refine (isDigit_any _ _).mono ?_
     rintro e w' ⟨rfl,rfl⟩
     rw [hr]
     go_wp2_with fail
     go_ret
     exact ⟨rfl,hbw2⟩
  ·have hne:∀ ty,(Instr.next (.pointer (some ⟨w.heap.size,0,none⟩)) true ty).run Tryz.prog wr = _:=fun ty=>Lib.run_next_end_at wr w.heap.size s pos ty hit hlt
   obtain rfl:=spn_end hlt HN.out
   obtain rfl:G = s.size:=by omega
   clear HN HG
   go_wp2_with fail
   go_ret
   exact ⟨rfl,hbw⟩
end Ver
end Go.Proofs.YtmhpjjjjgakpiaaGreatDoor
namespace Go.Proofs.YtmhpjjjjgakpiaaGreatDoor
set_option linter.unusedSimpArgs false
set_option linter.unusedVariables false
namespace Rl
open Ver (Bs)
abbrev At:=Bs × Int × Bs
def wh (c:UInt8):Bool:=decide (c = 32) || decide (c = 9)
def sg (c:UInt8):Bool:=decide (c = 60) || decide (c = 61) || decide (c = 62)
def mk (c:UInt8):Bool:=decide (c = 44) || decide (c = 124) || decide (c = 40) || decide (c = 41)
def wd (c:UInt8):Bool:=!wh c && !sg c && !mk c
def lds (c:UInt8):Bool:=(decide (97 ≤ c) && decide (c ≤ 122)) || (decide (48 ≤ c) && decide (c ≤ 57))
def mrs (c:UInt8):Bool:=decide (c = 43) || decide (c = 45) || decide (c = 46)
def nch (c:UInt8):Bool:=lds c || mrs c
def nmB:Bs → Bool
 | []=>false
 | c :: r=>decide (1 ≤ r.length ∧ r.length ≤ 23) && lds c && r.all nch
def isV (v:Bs):Bool:=(Ver.parse v).isSome
def skip (l:Bs):Bs:=l.dropWhile wh
def relN (s:Bs):Int:=if s = [60,60] then 1 else if s = [60,61] then 2 else if s = [61] then 3 else if s = [62,61] then 4 else if s = [62,62] then 5 else 0
def sgnN (r:Int):Bs:=if r = 1 then [60,60] else if r = 2 then [60,61] else if r = 3 then [61] else if r = 4 then [62,61] else if r = 5 then [62,62] else []
def may (a:At):Bool:=nmB a.1 && (if a.2.1 = 0 then a.2.2.isEmpty else decide (1 ≤ a.2.1 ∧ a.2.1 ≤ 5) && isV a.2.2)
def tk (c:UInt8):Bs → Option Bs
 | []=>none
 | x :: r=>if x = c then some (skip r) else none
def atom (l:Bs):Option (At × Bs) :=
 match tk 40 (skip (l.dropWhile wd)) with
 | none=>if may (l.takeWhile wd,0,[]) = true then some ((l.takeWhile wd,0,[]),skip (l.dropWhile wd)) else none
 | some l2 =>
  if relN (l2.takeWhile sg) = 0 then none else
  match tk 41 (skip ((skip (l2.dropWhile sg)).dropWhile wd)) with
  | none=>none
  | some l5=>if may (l.takeWhile wd,relN (l2.takeWhile sg),(skip (l2.dropWhile sg)).takeWhile wd) = true then some ((l.takeWhile wd,relN (l2.takeWhile sg),(skip (l2.dropWhile sg)).takeWhile wd),l5) else none
section
variable {α:Type}
end
abbrev Pv:=Bs × Bs
def prv (e:Except Int (At × Bs)):Except Int (Pv × Bs):=match e with
 | .error _=>.error 3
 | .ok (a,r)=>if a.2.1 = 0 ∨ a.2.1 = 3 then .ok ((a.1,a.2.2),r) else .error 3
/-! ### the same -/
def Stuck (r:Bs):Prop:=r ≠ [] ∧ tk 44 r = none ∧ tk 124 r = none
def R {α:Type} (c y:Except Int (α × Bs)):Prop:=c = y ∨ (y = .error 3 ∧ ∃ x r,c = .ok (x,r) ∧ Stuck r)
/-! ### one atom -/
def one (s:Bs):Option At:=match atom (skip s) with
 | some (a,[])=>some a
 | _=>none
end Rl
end Go.Proofs.YtmhpjjjjgakpiaaGreatDoor
namespace Go.Proofs.YtmhpjjjjgakpiaaGreatDoor
set_option linter.unusedSimpArgs false
set_option linter.unusedVariables false
namespace Rl
open Ver (Bs)
def pvA (p:Pv):At:=(p.1,if p.2 = [] then 0 else 3,p.2)
end Rl
end Go.Proofs.YtmhpjjjjgakpiaaGreatDoor

/-
Versions as lists of bytes: parts as rows of numbers, which row is earlier, what a version's parts are. No program is named here.
-/
import Derived.WalkKit
import Derived.Lib.Bytealg
namespace Go.Proofs.YtmhpjjjjgakpiaaGreatDoor
set_option linter.unusedSimpArgs false
set_option linter.unusedVariables false
namespace Ver
abbrev Bs:=List UInt8
def dig (c:UInt8):Bool:=decide (48 ≤ c) && decide (c ≤ 57)
def alf (c:UInt8):Bool:=(decide (97 ≤ c) && decide (c ≤ 122)) || (decide (65 ≤ c) && decide (c ≤ 90))
def rk (c:UInt8):Int:=if c = 126 then -1 else if alf c then 1 + (c.toNat:Int) else 300 + (c.toNat:Int)
def dv (c:UInt8):Nat:=c.toNat - 48
def key:Option Nat → Bs → List Int
 | none,[]=>[]
 | some v,[]=>[(v:Int)]
 | none,c :: r=>if dig c then 0 :: key (some (dv c)) r else rk c :: key none r
 | some v,c :: r=>if dig c then key (some (10 * v + dv c)) r else (v:Int) :: rk c :: key none r
def sgn (x y:Int):Int:=if x < y then -1 else if y < x then 1 else 0
def orr (p q:Int):Int:=if p ≠ 0 then p else q
def lex0:List Int → Int
 | []=>0
 | y :: ys=>orr (sgn 0 y) (lex0 ys)
def lex:List Int → List Int → Int
 | [],ys=>lex0 ys
 | x :: xs,[]=>orr (sgn x 0) (lex xs [])
 | x :: xs,y :: ys=>orr (sgn x y) (lex xs ys)
theorem lex_nn:lex [] [] = 0:=rfl
theorem lex_nc (y:Int) (ys:List Int):lex [] (y :: ys) = orr (sgn 0 y) (lex [] ys):=rfl
theorem lex_cn (x:Int) (xs:List Int):lex (x :: xs) [] = orr (sgn x 0) (lex xs []):=rfl
theorem lex_cc (x y:Int) (xs ys:List Int):lex (x :: xs) (y :: ys) = orr (sgn x y) (lex xs ys):=rfl
def part (a b:Bs):Int:=lex (key none a) (key none b)
/-! ### an order -/
theorem sgn_self (x:Int):sgn x x = 0:=by unfold sgn; simp
theorem sgn_turn (x y:Int):sgn y x = - sgn x y:=by unfold sgn; repeat' split
                                                   all_goals omega
theorem orr_turn (p q:Int):orr (-p) (-q) = - orr p q:=by unfold orr; repeat' split
                                                         all_goals omega
theorem orr_zero (q:Int):orr 0 q = q:=by simp [orr]
theorem lex_turn:∀ x y:List Int,lex y x = - lex x y
 | [],[]=>by simp [lex_nn]
 | [],y :: ys=>by rw [lex_nc,lex_cn,lex_turn [] ys,sgn_turn 0 y,orr_turn]
 | x :: xs,[]=>by rw [lex_nc,lex_cn,lex_turn xs [],sgn_turn x 0,orr_turn]
 | x :: xs,y :: ys=>by rw [lex_cc,lex_cc,lex_turn xs ys,sgn_turn x y,orr_turn]
def Tri (p q r:Int):Prop:=(p = 0 → r = q) ∧ (q = 0 → r = p) ∧ (p = q → r = p)
theorem Tri.or {p q r p' q' r':Int} (h:Tri p q r) (h':Tri p' q' r'):Tri (orr p p') (orr q q') (orr r r'):=by
 obtain ⟨h1,h2,h3⟩:=h
 obtain ⟨k1,k2,k3⟩:=h'
 unfold orr
 refine ⟨?_,?_,?_⟩ <;> (repeat' split) <;> omega
theorem tri_sgn (x y z:Int):Tri (sgn x y) (sgn y z) (sgn x z):=by
 unfold sgn
 refine ⟨?_,?_,?_⟩ <;> (repeat' split) <;> omega
theorem lex_tri:∀ x y z:List Int,Tri (lex x y) (lex y z) (lex x z)
 | [],[],[]=>⟨fun _=>rfl,fun _=>rfl,fun _=>rfl⟩
 | [],[],z :: zs=>by
  have:=(tri_sgn 0 0 z).or (lex_tri [] [] zs)
  simpa [lex_nn,lex_nc,lex_cn,sgn_self,orr_zero] using this
 | [],y :: ys,[]=>by
  have:=(tri_sgn 0 y 0).or (lex_tri [] ys [])
  simpa [lex_nn,lex_nc,lex_cn,sgn_self,orr_zero] using this
 | x :: xs,[],[]=>by
  have:=(tri_sgn x 0 0).or (lex_tri xs [] [])
  simpa [lex_nn,lex_nc,lex_cn,sgn_self,orr_zero] using this
 | [],y :: ys,z :: zs=>(tri_sgn 0 y z).or (lex_tri [] ys zs)
 | x :: xs,[],z :: zs=>(tri_sgn x 0 z).or (lex_tri xs [] zs)
 | x :: xs,y :: ys,[]=>(tri_sgn x y 0).or (lex_tri xs ys [])
 | x :: xs,y :: ys,z :: zs=>(tri_sgn x y z).or (lex_tri xs ys zs)
def One (p:Int):Prop:=p = -1 ∨ p = 0 ∨ p = 1
theorem one_sgn (x y:Int):One (sgn x y):=by unfold sgn One; repeat' split
                                            all_goals simp
theorem One.or {p q:Int} (h:One p) (k:One q):One (orr p q):=by unfold orr; split
                                                               ·exact h
                                                               ·exact k
theorem one_lex:∀ x y:List Int,One (lex x y)
 | [],[]=>.inr (.inl rfl)
 | [],y :: ys=>(one_sgn _ _).or (one_lex [] ys)
 | x :: xs,[]=>(one_sgn _ _).or (one_lex xs [])
 | x :: xs,y :: ys=>(one_sgn _ _).or (one_lex xs ys)
/-! ### rows side by side -/
theorem lex_pad:∀ x z:List Int,lex (x ++ [0]) z = lex x z
 | [],[]=>rfl
 | [],z :: zs=>by
  simp only [List.nil_append,lex_cc,lex_nc]
 | x :: xs,[]=>by
  simp only [List.cons_append,lex_cn,lex_pad xs []]
 | x :: xs,z :: zs=>by
  simp only [List.cons_append,lex_cc,lex_pad xs zs]
theorem lex_pads (x z:List Int):lex (x ++ [0,0]) z = lex x z:=by
 rw [show x ++ [0,0] = (x ++ [0]) ++ [0] by simp,lex_pad,lex_pad]
theorem rk_ne (c:UInt8):rk c ≠ 0:=by unfold rk; repeat' split
                                     all_goals omega
theorem sgn_ne {x y:Int} (h:x ≠ y):sgn x y ≠ 0:=by unfold sgn; repeat' split
                                                   all_goals omega
theorem orr_ne {p:Int} (h:p ≠ 0) (q:Int):orr p q = p:=by unfold orr; rw [if_pos h]
theorem orr_orr (p q r:Int):orr (orr p q) r = orr p (orr q r):=by
 unfold orr; by_cases h:p = 0 <;> simp [h]
theorem lex_sides:∀ (x y:List Int) (k l:List Int),(∀ v ∈ x,v ≠ 0) → (∀ v ∈ y,v ≠ 0) → lex (x ++ 0 :: k) (y ++ 0 :: l) = orr (lex x y) (lex k l)
 | [],[],k,l,_,_=>by simp [lex_cc,lex_nn,sgn_self,orr_zero]
 | [],y :: ys,k,l,_,hy=>by
  have h:=sgn_ne (x:=0) (y:=y) (Ne.symm (hy y (.head _)))
  simp only [List.nil_append,List.cons_append,lex_cc,lex_nc,orr_ne h]
 | x :: xs,[],k,l,hx,_=>by
  have h:=sgn_ne (x:=x) (y:=0) (hx x (.head _))
  simp only [List.nil_append,List.cons_append,lex_cc,lex_cn,orr_ne h]
 | x :: xs,y :: ys,k,l,hx,hy=>by
  simp only [List.cons_append,lex_cc,lex_sides xs ys k l (fun v h=>hx v (.tail _ h)) (fun v h=>hy v (.tail _ h)),orr_orr]
/-! ### a part's pieces -/
def val (v:Nat) (l:Bs):Nat:=l.foldl (fun v c=>10 * v + dv c) v
theorem val_nil (v:Nat):val v [] = v:=rfl
theorem val_cons (v:Nat) (c:UInt8) (r:Bs):val v (c :: r) = val (10 * v + dv c) r:=by unfold val; rw [List.foldl_cons]
theorem val_first (c:UInt8) (r:Bs):val 0 (c :: r) = val (dv c) r:=by rw [val_cons,Nat.mul_zero,Nat.zero_add]
theorem key_val:∀ (d r:Bs) (v:Nat),(∀ c ∈ d,dig c = true) → key (some v) (d ++ r) = key (some (val v d)) r
 | [],_,_,_=>rfl
 | c :: d,r,v,h=>by
  rw [List.cons_append,key,if_pos (h c (.head _)),key_val d r _ fun x hx=>h x (.tail _ hx),val_cons]
theorem key_signs:∀ (x r:Bs),(∀ c ∈ x,dig c = false) → key none (x ++ r) = x.map rk ++ key none r
 | [],_,_=>rfl
 | c :: x,r,h=>by
  rw [List.cons_append,key,h c (.head _),if_neg (by simp),key_signs x r fun y hy=>h y (.tail _ hy)]
  rfl
def headNo (p:UInt8 → Bool):Bs → Prop
 | []=>True
 | c :: _=>p c = false
theorem lex_pieces (x d r:Bs) (z:List Int) (hx:∀ c ∈ x,dig c = false) (hd:∀ c ∈ d,dig c = true) (hr:headNo dig r) (he:d = [] → r = []) :
  lex (key none (x ++ (d ++ r))) z = lex (x.map rk ++ 0 :: ((val 0 d:Nat):Int) :: key none r) z:=by
 rw [key_signs _ _ hx]
 cases d with
 | nil =>
  rw [he rfl]
  show lex (x.map rk ++ []) z = lex (x.map rk ++ [0,0]) z
  rw [lex_pads,List.append_nil]
 | cons c d =>
  rw [List.cons_append,key,if_pos (hd c (.head _)),key_val d r _ fun y hy=>hd y (.tail _ hy)]
  rw [val_first]
  cases r with
  | nil=>rfl
  | cons q r =>
   have hq:dig q = false:=hr
   rw [key,hq,key,hq]
   simp
theorem lex_pieces2 (x d r:Bs) (z:List Int) (hx:∀ c ∈ x,dig c = false) (hd:∀ c ∈ d,dig c = true) (hr:headNo dig r) (he:d = [] → r = []) :
  lex z (key none (x ++ (d ++ r))) = lex z (x.map rk ++ 0 :: ((val 0 d:Nat):Int) :: key none r):=by
 rw [lex_turn (key none (x ++ (d ++ r))) z,lex_pieces x d r z hx hd hr he,← lex_turn]
theorem part_round (x d r y f s:Bs) (hx:∀ c ∈ x,dig c = false) (hd:∀ c ∈ d,dig c = true) (hr:headNo dig r) (he:d = [] → r = [])
  (hy:∀ c ∈ y,dig c = false) (hf:∀ c ∈ f,dig c = true) (hs:headNo dig s) (hg:f = [] → s = []) :
  part (x ++ (d ++ r)) (y ++ (f ++ s)) = orr (lex (x.map rk) (y.map rk)) (orr (sgn (val 0 d) (val 0 f)) (part r s)):=by
 unfold part
 rw [lex_pieces x d r _ hx hd hr he,lex_pieces2 y f s _ hy hf hs hg,lex_sides _ _ _ _ (fun v h=>?_) (fun v h=>?_)]
 ·rfl
 ·obtain ⟨c,_,rfl⟩:=List.mem_map.1 h; exact rk_ne c
 ·obtain ⟨c,_,rfl⟩:=List.mem_map.1 h; exact rk_ne c
/-! ### rows of digits -/
def nought (c:UInt8):Bool:=decide (c = 48)
def strip:Bs → Bs
 | []=>[]
 | c :: r=>if c = 48 then strip r else c :: r
theorem val_strip:∀ d:Bs,val 0 (strip d) = val 0 d
 | []=>rfl
 | c :: d=>by
  unfold strip
  by_cases h:c = 48
  ·subst h; rw [if_pos rfl,val_strip d,val_first]; rfl
  ·rw [if_neg h]
theorem dv_lt {c:UInt8} (h:dig c = true):dv c < 10:=by
 have h1:=UInt8.toNat_lt c
 unfold dig at h
 simp [UInt8.le_iff_toNat_le] at h
 unfold dv; omega
theorem dv_pos {c:UInt8} (h:dig c = true) (h0:c ≠ 48):0 < dv c:=by
 unfold dig at h
 simp [UInt8.le_iff_toNat_le] at h
 have:c.toNat ≠ 48:=fun e=>h0 (UInt8.toNat_inj.1 (by simpa using e))
 unfold dv; omega
theorem val_lt:∀ (d f:Bs) (v u:Nat),d.length = f.length → (∀ c ∈ d,dig c = true) → v < u → val v d < val u f
 | [],[],_,_,_,_,h=>h
 | c :: d,e :: f,v,u,hl,hd,h=>by
  have hc:=dv_lt (hd c (.head _))
  rw [val_cons,val_cons]
  exact val_lt d f _ _ (by simpa using hl) (fun x hx=>hd x (.tail _ hx)) (by omega)
 | [],_ :: _,_,_,hl,_,_=>by simp at hl
 | _ :: _,[],_,_,hl,_,_=>by simp at hl
theorem val_same:∀ (d f:Bs) (v:Nat),d.length = f.length → (∀ c ∈ d,dig c = true) → (∀ c ∈ f,dig c = true) → sgn (val v d) (val v f) = Lib.compareBytes d f
 | [],[],v,_,_,_=>by rw [sgn_self]; rfl
 | c :: d,e :: f,v,hl,hd,hf=>by
  have hl':d.length = f.length:=by simpa using hl
  have h1:=hd c (.head _)
  have h2:=hf e (.head _)
  unfold dig at h1 h2
  simp [UInt8.le_iff_toNat_le] at h1 h2
  rw [Lib.compareBytes,val_cons,val_cons]
  by_cases hlt:c < e
  ·rw [if_pos hlt]
   have k:dv c < dv e:=by have:=UInt8.lt_iff_toNat_lt.1 hlt; unfold dv; omega
   have:=val_lt d f (10 * v + dv c) (10 * v + dv e) hl' (fun x hx=>hd x (.tail _ hx)) (by omega)
   unfold sgn; rw [if_pos (by omega)]
  ·rw [if_neg hlt]
   by_cases hgt:e < c
   ·rw [if_pos hgt]
    have k:dv e < dv c:=by have:=UInt8.lt_iff_toNat_lt.1 hgt; unfold dv; omega
    have:=val_lt f d (10 * v + dv e) (10 * v + dv c) hl'.symm (fun x hx=>hf x (.tail _ hx)) (by omega)
    unfold sgn; rw [if_neg (by omega),if_pos (by omega)]
   ·rw [if_neg hgt]
    have:c = e:=UInt8.toNat_inj.1 (by have a:=mt UInt8.lt_iff_toNat_lt.2 hlt; have b:=mt UInt8.lt_iff_toNat_lt.2 hgt; omega)
    subst this
    exact val_same d f _ hl' (fun x hx=>hd x (.tail _ hx)) (fun x hx=>hf x (.tail _ hx))
 | [],_ :: _,_,hl,_,_=>by simp at hl
 | _ :: _,[],_,hl,_,_=>by simp at hl
theorem val_up:∀ (d:Bs) (v:Nat),v * 10 ^ d.length ≤ val v d
 | [],v=>by simp [val_nil]
 | c :: d,v=>by
  have:=val_up d (10 * v + dv c)
  rw [val_cons,List.length_cons,Nat.pow_succ]
  refine Nat.le_trans ?_ this
  rw [Nat.mul_comm (10 ^ d.length) 10,← Nat.mul_assoc,Nat.mul_comm v 10]
  exact Nat.mul_le_mul_right _ (by omega)
theorem val_down:∀ (d:Bs) (v:Nat),(∀ c ∈ d,dig c = true) → val v d < (v + 1) * 10 ^ d.length
 | [],v,_=>by simp [val_nil]
 | c :: d,v,h=>by
  have:=val_down d (10 * v + dv c) fun x hx=>h x (.tail _ hx)
  have hc:=dv_lt (h c (.head _))
  rw [val_cons,List.length_cons,Nat.pow_succ]
  refine Nat.lt_of_lt_of_le this ?_
  rw [Nat.mul_comm (10 ^ d.length) 10,← Nat.mul_assoc]
  exact Nat.mul_le_mul_right _ (by omega)
theorem val_short {d f:Bs} (hd:∀ c ∈ d,dig c = true) (hf:∀ c ∈ f,dig c = true) (h0:headNo nought f) (hl:d.length < f.length):val 0 d < val 0 f:=by
 have h1:=val_down d 0 hd
 cases f with
 | nil=>simp at hl
 | cons c f =>
  have hc:c ≠ 48:=by simpa [headNo,nought] using h0
  have h2:=val_up f (dv c)
  have h3:=dv_pos (hf c (.head _)) hc
  have h4:10 ^ d.length ≤ 10 ^ f.length:=Nat.pow_le_pow_right (by omega) (by simp at hl; omega)
  have h5:1 * 10 ^ f.length ≤ dv c * 10 ^ f.length:=Nat.mul_le_mul_right _ (by omega)
  rw [val_first]
  omega
theorem strip_head:∀ d:Bs,headNo nought (strip d)
 | []=>trivial
 | c :: d=>by
  unfold strip
  by_cases h:c = 48
  ·rw [if_pos h]; exact strip_head d
  ·rw [if_neg h]; simp [headNo,nought,h]
theorem strip_sub:∀ d:Bs,∀ c ∈ strip d,c ∈ d
 | [],_,h=>h
 | x :: d,c,h=>by
  unfold strip at h
  by_cases e:x = 48
  ·rw [if_pos e] at h; exact .tail _ (strip_sub d c h)
  ·rwa [if_neg e] at h
def numB (a b:Bs):Int:=orr (sgn (strip a).length (strip b).length) (Lib.compareBytes (strip a) (strip b))
theorem num_val {d f:Bs} (hd:∀ c ∈ d,dig c = true) (hf:∀ c ∈ f,dig c = true):numB d f = sgn (val 0 d) (val 0 f):=by
 rw [← val_strip d,← val_strip f]
 have hd':∀ c ∈ strip d,dig c = true:=fun c h=>hd c (strip_sub d c h)
 have hf':∀ c ∈ strip f,dig c = true:=fun c h=>hf c (strip_sub f c h)
 unfold numB
 by_cases h1:(strip d).length < (strip f).length
 ·have:=val_short hd' hf' (strip_head f) h1
  rw [show sgn ((strip d).length:Int) (strip f).length = -1 by unfold sgn; rw [if_pos (by omega)],show sgn (val 0 (strip d):Int) (val 0 (strip f)) = -1 by unfold sgn; rw [if_pos (by omega)]]
  rfl
 ·by_cases h2:(strip f).length < (strip d).length
  ·have:=val_short hf' hd' (strip_head d) h2
   rw [show sgn ((strip d).length:Int) (strip f).length = 1 by unfold sgn; rw [if_neg (by omega),if_pos (by omega)],show sgn (val 0 (strip d):Int) (val 0 (strip f)) = 1 by unfold sgn; rw [if_neg (by omega),if_pos (by omega)]]
   rfl
  ·rw [val_same _ _ 0 (by omega) hd' hf',show sgn ((strip d).length:Int) (strip f).length = 0 by unfold sgn; rw [if_neg (by omega),if_neg (by omega)],orr_zero]
theorem part_digits {d f:Bs} (hd:∀ c ∈ d,dig c = true) (hf:∀ c ∈ f,dig c = true):part d f = sgn (val 0 d) (val 0 f):=by
 have:=part_round [] d [] [] f [] (fun _ h=>by cases h) hd trivial (fun _=>rfl) (fun _ h=>by cases h) hf trivial (fun _=>rfl)
 simp only [List.nil_append,List.append_nil,List.map_nil] at this
 rw [this]
 have e:part [] [] = 0:=rfl
 rw [e]
 show orr (lex [] []) (orr _ 0) = _
 rw [show lex [] [] = 0 from rfl,orr_zero]
 unfold orr; split <;> omega
/-! ### versions -/
def sig (c:UInt8):Bool:=alf c || dig c || decide (c = 43) || decide (c = 46) || decide (c = 126)
def ups (c:UInt8):Bool:=sig c || decide (c = 45) || decide (c = 58)
def cut1 (x:UInt8):Bs → Option (Bs × Bs)
 | []=>none
 | c :: r=>if c = x then some ([],r) else (cut1 x r).map fun p=>(c :: p.1,p.2)
def cutZ (x:UInt8):Bs → Option (Bs × Bs)
 | []=>none
 | c :: r=>match cutZ x r with
  | some p=>some (c :: p.1,p.2)
  | none=>if c = x then some ([],r) else none
def upOK (u:Bs):Bool:=match u with
 | []=>false
 | c :: _=>dig c && u.all ups
def epochOf (s:Bs):Option (Bs × Bs):=match cut1 58 s with
 | none=>some ([48],s)
 | some (e,r)=>if 1 ≤ e.length ∧ e.length ≤ 9 ∧ e.all dig = true then some (e,r) else none
def revOf (s:Bs):Option (Bs × Bs):=match cutZ 45 s with
 | none=>some (s,[])
 | some (u,v)=>if v ≠ [] ∧ v.all sig = true then some (u,v) else none
def parse (s:Bs):Option (Bs × Bs × Bs) :=
 if 1 ≤ s.length ∧ s.length ≤ 48 then
  match epochOf s with
  | none=>none
  | some (e,r)=>match revOf r with
   | none=>none
   | some (u,v)=>if upOK u = true then some (e,u,v) else none
 else none
def cmpP (p q:Bs × Bs × Bs):Int:=orr (part p.1 q.1) (orr (part p.2.1 q.2.1) (part p.2.2 q.2.2))
def cmpV (a b:Bs):Int:=match parse a,parse b with
 | some p,some q=>cmpP p q
 | _,_=>0
end Ver
end Go.Proofs.YtmhpjjjjgakpiaaGreatDoor

/-

-/
import Derived.Sort.LotA
namespace Go.Proofs.YtgpcilepkmckeaaGreatDoor
set_option linter.unusedSectionVars false
set_option linter.unusedVariables false
/-! The stable sort,plain: a row whose entries bear tags; 'before' is the order by key,then by tag. Merging by rotating. -/
namespace Sa
open Go.Sort
section
variable {α:Type} [Inhabited α] (lt:α → α → Bool) (tg:α → Nat)
def Bef (x y:α):Prop:=lt x y = true ∨ (lt x y = false ∧ lt y x = false ∧ tg x < tg y)

theorem bef_trans (hS:SWO lt) (x y z:α) (h1:Bef lt tg x y) (h2:Bef lt tg y z):Bef lt tg x z:=by
 have mix1:lt x y = true → lt z y = false → lt x z = true:=fun h g=>by
  cases e:lt x z with
  | true=>rfl
  | false=>exact absurd (hS.ntrans _ _ _ e g) (by rw [h]; decide)
 have mix2:lt y x = false → lt y z = true → lt x z = true:=fun h g=>by
  cases e:lt x z with
  | true=>rfl
  | false=>exact absurd (hS.ntrans _ _ _ h e) (by rw [g]; decide)
 rcases h1 with a | ⟨a,b,c⟩ <;> rcases h2 with d | ⟨d,e,f⟩
 ·exact Or.inl (hS.trans _ _ _ a d)
 ·exact Or.inl (mix1 a e)
 ·exact Or.inl (mix2 b d)
 ·exact Or.inr ⟨hS.ntrans _ _ _ a d,hS.ntrans _ _ _ e b,by omega⟩

theorem bef_not (hS:SWO lt) (x y:α) (h1:Bef lt tg x y) (h2:Bef lt tg y x):False:=by
 have h:=bef_trans lt tg hS x y x h1 h2
 rcases h with a | ⟨_,_,c⟩
 ·rw [hS.irrefl] at a; exact absurd a (by decide)
 ·omega

theorem bef_low (hS:SWO lt) {x y:α} (ht:tg x < tg y) (h:lt y x = false):Bef lt tg x y:=by
 cases e:lt x y with
 | true=>exact Or.inl e
 | false=>exact Or.inr ⟨e,h,ht⟩

def Rise (a b:Nat) (d:Array α):Prop:=∀ i j,a ≤ i → i < j → j < b → Bef lt tg d[i]! d[j]!
def Tags (a m b:Nat) (d:Array α):Prop:=∀ i j,a ≤ i → i < m → m ≤ j → j < b → tg d[i]! < tg d[j]!

theorem rise_le (hS:SWO lt) {a b:Nat} {d:Array α} (h:Rise lt tg a b d) {i j:Nat} {z:α} (ha:a ≤ i) (hij:i ≤ j) (hj:j < b) (hz:Bef lt tg d[j]! z):Bef lt tg d[i]! z:=by
 rcases Nat.lt_or_ge i j with g | g
 ·exact bef_trans lt tg hS _ _ _ (h i j ha g hj) hz
 ·obtain rfl:i = j:=by omega
  exact hz
theorem rise_ge (hS:SWO lt) {a b:Nat} {d:Array α} (h:Rise lt tg a b d) {i j:Nat} {z:α} (ha:a ≤ i) (hij:i ≤ j) (hj:j < b) (hz:Bef lt tg z d[i]!):Bef lt tg z d[j]!:=by
 rcases Nat.lt_or_ge i j with g | g
 ·exact bef_trans lt tg hS _ _ _ hz (h i j ha g hj)
 ·obtain rfl:i = j:=by omega
  exact hz
end

section
variable {α:Type} [Inhabited α]
def SwapOf (a b n:Nat) (d d':Array α):Prop:=d'.size = d.size ∧ ∀ k,d'[k]! = if a ≤ k ∧ k < a + n then d[b + (k - a)]! else if b ≤ k ∧ k < b + n then d[a + (k - b)]! else d[k]!
def RotOf (a m b:Nat) (d d':Array α):Prop:=d'.size = d.size ∧ ∀ k,d'[k]! = if k < a ∨ b ≤ k then d[k]! else if k < a + (b - m) then d[m + (k - a)]! else d[a + (k - (a + (b - m)))]!

theorem swapOf_nil (a b:Nat) (d:Array α):SwapOf a b 0 d d:=⟨rfl,fun k=>by rw [if_neg (by omega),if_neg (by omega)]⟩

theorem swapOf_step {a b i:Nat} {d dk:Array α} (h:SwapOf a b i d dk) (hab:a + i < b) (hb:b + i < d.size):SwapOf a b (i + 1) d (swp dk (a + i) (b + i)):=by
 have es:=h.1
 refine ⟨by rw [size_swp,es],fun k=>?_⟩
 by_cases h1:k = a + i
 ·subst h1
  rw [swp_left dk _ _ (by omega) (by omega),h.2,if_neg (by omega),if_neg (by omega),if_pos (by omega)]
  congr 1; omega
 ·by_cases h2:k = b + i
  ·subst h2
   rw [swp_right dk _ _ (by omega),h.2,if_neg (by omega),if_neg (by omega),if_neg (by omega),if_pos (by omega)]
   congr 1; omega
  ·rw [swp_other dk _ _ _ h1 h2,h.2]
   by_cases c1:a ≤ k ∧ k < a + i
   ·rw [if_pos c1,if_pos (by omega)]
   ·rw [if_neg c1]
    by_cases c2:b ≤ k ∧ k < b + i
    ·rw [if_pos c2,if_neg (by omega),if_pos (by omega)]
    ·rw [if_neg c2,if_neg (by omega),if_neg (by omega)]

theorem rot_even {m i:Nat} {d d':Array α} (him:i ≤ m) (h:SwapOf (m - i) m i d d'):RotOf (m - i) m (m + i) d d':=by
 refine ⟨h.1,fun k=>?_⟩
 rw [h.2]
 by_cases c0:k < m - i ∨ m + i ≤ k
 ·rw [if_neg (by omega),if_neg (by omega),if_pos c0]
 ·rw [if_neg c0]
  by_cases c1:m - i ≤ k ∧ k < m - i + i
  ·rw [if_pos c1,if_pos (by omega)]
  ·rw [if_neg c1,if_pos (by omega),if_neg (by omega)]
   congr 1; omega

theorem rot_left {m i j:Nat} {d dk d':Array α} (him:i ≤ m) (hij:j < i) (h:SwapOf (m - i) m j d dk) (hr:RotOf (m - (i - j)) m (m + j) dk d'):RotOf (m - i) m (m + j) d d':=by
 refine ⟨by rw [hr.1,h.1],fun k=>?_⟩
 rw [hr.2]
 by_cases c0:k < m - i ∨ m + j ≤ k
 ·rw [if_pos c0,if_pos (by omega),h.2,if_neg (by omega),if_neg (by omega)]
 ·rw [if_neg c0]
  by_cases c1:k < m - (i - j)
  ·rw [if_pos (by omega),h.2,if_pos (by omega),if_pos (by omega)]
  ·rw [if_neg (by omega)]
   by_cases c2:k < m - (i - j) + (m + j - m)
   ·rw [if_pos c2,h.2,if_neg (by omega),if_pos (by omega),if_neg (by omega)]
    congr 1; omega
   ·rw [if_neg c2,h.2,if_neg (by omega),if_neg (by omega),if_neg (by omega)]
    congr 1; omega

theorem rot_right {m i j:Nat} {d dk d':Array α} (him:i ≤ m) (hij:i < j) (h:SwapOf (m - i) (m + j - i) i d dk) (hr:RotOf (m - i) m (m + (j - i)) dk d'):RotOf (m - i) m (m + j) d d':=by
 refine ⟨by rw [hr.1,h.1],fun k=>?_⟩
 rw [hr.2]
 by_cases c0:k < m - i ∨ m + j ≤ k
 ·rw [if_pos c0,if_pos (by omega),h.2,if_neg (by omega),if_neg (by omega)]
 ·rw [if_neg c0]
  by_cases c1:m + (j - i) ≤ k
  ·rw [if_pos (by omega),h.2,if_neg (by omega),if_pos (by omega),if_neg (by omega)]
   congr 1; omega
  ·rw [if_neg (by omega)]
   by_cases c2:k < m - i + (m + (j - i) - m)
   ·rw [if_pos c2,if_pos (by omega),h.2,if_neg (by omega),if_neg (by omega)]
   ·rw [if_neg c2,if_pos (by omega),h.2,if_pos (by omega)]
    congr 1; omega

theorem rot_perm {a m b:Nat} {d d':Array α} (h1:a ≤ m) (h2:m ≤ b) (hb:b ≤ d.size) (h:RotOf a m b d d'):PermIn a b d d':=by
 refine ⟨h.1,fun i hi=>by rw [h.2,if_pos hi],?_⟩
 rw [extract_toList _ _ _ (by rw [h.1]; exact hb),extract_toList _ _ _ hb]
 have e1:List.range' a (b - a) = List.range' a (b - m) ++ List.range' (a + (b - m)) (m - a):=by
  have:=List.range'_append (s:=a) (m:=b - m) (n:=m - a) (step:=1)
  rw [Nat.one_mul] at this
  rw [this]; congr 1; omega
 have e2:List.range' a (b - a) = List.range' a (m - a) ++ List.range' m (b - m):=by
  have:=List.range'_append (s:=a) (m:=m - a) (n:=b - m) (step:=1)
  rw [Nat.one_mul,show a + (m - a) = m by omega] at this
  rw [this]; congr 1; omega
 have f1:(List.range' a (b - m)).map (fun i=>d'[i]!) = (List.range' m (b - m)).map (fun i=>d[i]!):=by
  apply List.ext_getElem
  ·simp
  ·intro k g1 g2
   have g3:k < b - m:=by simpa using g1
   simp only [List.getElem_map,List.getElem_range',Nat.one_mul]
   rw [h.2,if_neg (by omega),if_pos (by omega)]
   congr 1; omega
 have f2:(List.range' (a + (b - m)) (m - a)).map (fun i=>d'[i]!) = (List.range' a (m - a)).map (fun i=>d[i]!):=by
  apply List.ext_getElem
  ·simp
  ·intro k g1 g2
   have g3:k < m - a:=by simpa using g1
   simp only [List.getElem_map,List.getElem_range',Nat.one_mul]
   rw [h.2,if_neg (by omega),if_neg (by omega)]
   congr 1; omega
 conv=>lhs; rw [e1,List.map_append,f1,f2]
 conv=>rhs; rw [e2,List.map_append]
 exact List.perm_append_comm

theorem rot_none (a b:Nat) (d:Array α) (m:Nat) (h:a = m ∨ m = b) (hab:a ≤ m ∧ m ≤ b):RotOf a m b d d:=by
 refine ⟨rfl,fun k=>?_⟩
 by_cases c0:k < a ∨ b ≤ k
 ·rw [if_pos c0]
 ·rw [if_neg c0]
  rcases h with rfl | rfl
  ·rw [if_pos (by omega)]; congr 1; omega
  ·rw [if_neg (by omega)]; congr 1; omega
end

section
variable {α:Type} [Inhabited α] (lt:α → α → Bool) (tg:α → Nat)
structure Cut (a s m e b:Nat) (d:Array α):Prop where
 as:a ≤ s
 sm:s ≤ m
 me:m ≤ e
 eb:e ≤ b
 lr:∀ x y,a ≤ x → x < s → e ≤ y → y < b → Bef lt tg d[x]! d[y]!
 rl:∀ x y,m ≤ x → x < e → s ≤ y → y < m → Bef lt tg d[x]! d[y]!

theorem cut_left {a s m e b:Nat} {d d1:Array α} (h:Cut lt tg a s m e b d) (hr:RotOf s m e d d1) (k:Nat) (h1:a ≤ k) (h2:k < s + (e - m)) :
  (∃ x,a ≤ x ∧ x < s ∧ x = k ∧ d1[k]! = d[x]!) ∨ (∃ x,m ≤ x ∧ x < e ∧ s ≤ k ∧ x = m + (k - s) ∧ d1[k]! = d[x]!):=by
 have:=h.as; have:=h.sm; have:=h.me; have:=h.eb
 by_cases c:k < s
 ·left; exact ⟨k,h1,c,rfl,by rw [hr.2,if_pos (by omega)]⟩
 ·right; exact ⟨m + (k - s),by omega,by omega,by omega,rfl,by rw [hr.2,if_neg (by omega),if_pos (by omega)]⟩
theorem cut_right {a s m e b:Nat} {d d1:Array α} (h:Cut lt tg a s m e b d) (hr:RotOf s m e d d1) (k:Nat) (h1:s + (e - m) ≤ k) (h2:k < b) :
  (∃ x,s ≤ x ∧ x < m ∧ k < e ∧ x = s + (k - (s + (e - m))) ∧ d1[k]! = d[x]!) ∨ (∃ x,e ≤ x ∧ x < b ∧ x = k ∧ d1[k]! = d[x]!):=by
 have:=h.as; have:=h.sm; have:=h.me; have:=h.eb
 by_cases c:k < e
 ·left; exact ⟨s + (k - (s + (e - m))),by omega,by omega,c,rfl,by rw [hr.2,if_neg (by omega),if_neg (by omega)]⟩
 ·right; exact ⟨k,by omega,h2,rfl,by rw [hr.2,if_pos (by omega)]⟩

theorem cut_across {a s m e b:Nat} {d d1:Array α} (hL:Rise lt tg a m d) (hR:Rise lt tg m b d) (h:Cut lt tg a s m e b d) (hr:RotOf s m e d d1) (i j:Nat) (h1:a ≤ i) (h2:i < s + (e - m)) (h3:s + (e - m) ≤ j) (h4:j < b) :
  Bef lt tg d1[i]! d1[j]!:=by
 have:=h.as; have:=h.sm; have:=h.me; have:=h.eb
 rcases cut_left lt tg h hr i h1 h2 with ⟨x,a1,a2,_,a3⟩ | ⟨x,a1,a2,_,_,a3⟩ <;> rcases cut_right lt tg h hr j h3 h4 with ⟨y,b1,b2,_,_,b3⟩ | ⟨y,b1,b2,_,b3⟩ <;> rw [a3,b3]
 ·exact hL x y a1 (by omega) b2
 ·exact h.lr x y a1 a2 b1 b2
 ·exact h.rl x y a1 a2 b1 b2
 ·exact hR x y a1 (by omega) b2

theorem cut_parts {a s m e b:Nat} {d d1:Array α} (hL:Rise lt tg a m d) (hR:Rise lt tg m b d) (hT:Tags tg a m b d) (h:Cut lt tg a s m e b d) (hr:RotOf s m e d d1) :
  Rise lt tg a s d1 ∧ Rise lt tg s (s + (e - m)) d1 ∧ Tags tg a s (s + (e - m)) d1 ∧ Rise lt tg (s + (e - m)) e d1 ∧ Rise lt tg e b d1 ∧ Tags tg (s + (e - m)) e b d1:=by
 have:=h.as; have:=h.sm; have:=h.me; have:=h.eb
 have k1:∀ k,k < s → d1[k]! = d[k]!:=fun k hk=>by rw [hr.2,if_pos (by omega)]
 have k2:∀ k,s ≤ k → k < s + (e - m) → d1[k]! = d[m + (k - s)]!:=fun k _ _=>by rw [hr.2,if_neg (by omega),if_pos (by omega)]
 have k3:∀ k,s + (e - m) ≤ k → k < e → d1[k]! = d[s + (k - (s + (e - m)))]!:=fun k _ _=>by rw [hr.2,if_neg (by omega),if_neg (by omega)]
 have k4:∀ k,e ≤ k → d1[k]! = d[k]!:=fun k hk=>by rw [hr.2,if_pos (by omega)]
 refine ⟨fun i j _ _ _=>?_,fun i j _ _ _=>?_,fun i j _ _ _ _=>?_,fun i j _ _ _=>?_,fun i j _ _ _=>?_,fun i j _ _ _ _=>?_⟩
 ·rw [k1 i (by omega),k1 j (by omega)]; exact hL i j (by omega) (by omega) (by omega)
 ·rw [k2 i (by omega) (by omega),k2 j (by omega) (by omega)]; exact hR _ _ (by omega) (by omega) (by omega)
 ·rw [k1 i (by omega),k2 j (by omega) (by omega)]; exact hT _ _ (by omega) (by omega) (by omega) (by omega)
 ·rw [k3 i (by omega) (by omega),k3 j (by omega) (by omega)]; exact hL _ _ (by omega) (by omega) (by omega)
 ·rw [k4 i (by omega),k4 j (by omega)]; exact hR i j (by omega) (by omega) (by omega)
 ·rw [k3 i (by omega) (by omega),k4 j (by omega)]; exact hT _ _ (by omega) (by omega) (by omega) (by omega)

theorem cut_done {a s m e b:Nat} {d d1 d2 d3:Array α} (hb:b ≤ d.size) (hL:Rise lt tg a m d) (hR:Rise lt tg m b d) (h:Cut lt tg a s m e b d) (hr:RotOf s m e d d1)
  (p2:PermIn a (s + (e - m)) d1 d2) (r2:Rise lt tg a (s + (e - m)) d2) (p3:PermIn (s + (e - m)) b d2 d3) (r3:Rise lt tg (s + (e - m)) b d3):PermIn a b d d3 ∧ Rise lt tg a b d3:=by
 have:=h.as; have:=h.sm; have:=h.me; have:=h.eb
 have z1:d1.size = d.size:=hr.1
 have z2:d2.size = d.size:=by rw [p2.1,z1]
 have P1:PermIn a b d d1:=permIn_mono _ _ s e a b (by omega) (by omega) hb (rot_perm (by omega) (by omega) (by omega) hr)
 have P2:PermIn a b d1 d2:=permIn_mono _ _ _ _ a b (Nat.le_refl _) (by omega) (by omega) p2
 have P3:PermIn a b d2 d3:=permIn_mono _ _ _ _ a b (by omega) (Nat.le_refl _) (by omega) p3
 refine ⟨permIn_trans _ _ _ _ _ (permIn_trans _ _ _ _ _ P1 P2) P3,fun i j h1 h2 h3=>?_⟩
 by_cases c1:j < s + (e - m)
 ·rw [p3.2.1 i (by omega),p3.2.1 j (by omega)]; exact r2 i j h1 h2 c1
 ·by_cases c2:s + (e - m) ≤ i
  ·exact r3 i j c2 h2 h3
  ·rw [p3.2.1 i (by omega)]
   have q:∀ y,s + (e - m) ≤ y → y < b → ∀ x,a ≤ x → x < s + (e - m) → Bef lt tg d2[x]! d1[y]!:=fun y hy1 hy2 =>
    permIn_all d1 d2 a (s + (e - m)) (fun v=>Bef lt tg v d1[y]!) (by omega) p2 (fun x hx1 hx2=>cut_across lt tg hL hR h hr x y hx1 hx2 hy1 hy2)
   have q3:=permIn_all d2 d3 (s + (e - m)) b (fun v=>Bef lt tg d2[i]! v) (by omega) p3 (fun y hy1 hy2=>by
    rw [p2.2.1 y (by omega)]; exact q y hy1 hy2 i h1 (by omega))
   exact q3 j (by omega) h3

theorem cut_mid (hS:SWO lt) {a m b mid s s0 r0:Nat} {d:Array α} (ham:a ≤ m) (hmb:m ≤ b) (hmid:mid = (a + b) / 2) (hL:Rise lt tg a m d) (hR:Rise lt tg m b d) (hT:Tags tg a m b d)
  (h0:(mid < m ∧ s0 = mid + m - b ∧ r0 = mid) ∨ (m ≤ mid ∧ s0 = a ∧ r0 = m)) (h1:s0 ≤ s) (h2:s ≤ r0)
  (lo:s0 < s → lt d[mid + m - 1 - (s - 1)]! d[s - 1]! = false) (hi:s < r0 → lt d[mid + m - 1 - s]! d[s]! = true):Cut lt tg a s m (mid + m - s) b d:=by
 have g1:a ≤ s:=by omega
 have g2:s ≤ m:=by omega
 have g3:m ≤ mid + m - s:=by omega
 have g4:mid + m - s ≤ b:=by omega
 refine ⟨g1,g2,g3,g4,fun x y x1 x2 y1 y2=>?_,fun x y x1 x2 y1 y2=>?_⟩
 ·have c:s0 < s:=by omega
  have b1:Bef lt tg d[s - 1]! d[mid + m - 1 - (s - 1)]!:=bef_low lt tg hS (hT _ _ (by omega) (by omega) (by omega) (by omega)) (lo c)
  have b2:Bef lt tg d[x]! d[mid + m - 1 - (s - 1)]!:=rise_le lt tg hS hL x1 (by omega) (by omega) b1
  exact rise_ge lt tg hS hR (i:=mid + m - 1 - (s - 1)) (by omega) (by omega) y2 b2
 ·have c:s < r0:=by omega
  have b1:Bef lt tg d[mid + m - 1 - s]! d[s]!:=Or.inl (hi c)
  have b2:Bef lt tg d[x]! d[s]!:=rise_le lt tg hS hR (j:=mid + m - 1 - s) x1 (by omega) (by omega) b1
  exact rise_ge lt tg hS hL (i:=s) (by omega) y1 y2 b2
end
section
variable {α:Type} [Inhabited α]
theorem rot_up {a k:Nat} {d dk:Array α} (h:RotOf a (a + 1) (k + 1) d dk) (ha:a ≤ k) (hk:k + 1 < d.size):RotOf a (a + 1) (k + 2) d (swp dk k (k + 1)):=by
 have es:=h.1
 refine ⟨by rw [size_swp,es],fun j=>?_⟩
 by_cases h1:j = k
 ·subst h1
  rw [swp_left dk _ _ (by omega) (by omega),h.2,if_pos (by omega),if_neg (by omega),if_pos (by omega)]
  congr 1; omega
 ·by_cases h2:j = k + 1
  ·subst h2
   rw [swp_right dk _ _ (by omega),h.2,if_neg (by omega),if_neg (by omega),if_neg (by omega),if_neg (by omega)]
   congr 1; omega
  ·rw [swp_other dk _ _ _ h1 h2,h.2]
   by_cases c1:j < a ∨ k + 1 ≤ j
   ·rw [if_pos c1,if_pos (by omega)]
   ·rw [if_neg c1,if_pos (by omega),if_neg (by omega),if_pos (by omega)]
theorem rot_down {m k:Nat} {d dk:Array α} (h:RotOf (k + 1) m (m + 1) d dk) (hk:k < m) (hm:m < d.size):RotOf k m (m + 1) d (swp dk (k + 1) k):=by
 have es:=h.1
 refine ⟨by rw [size_swp,es],fun j=>?_⟩
 by_cases h1:j = k + 1
 ·subst h1
  rw [swp_left dk _ _ (by omega) (by omega),h.2,if_pos (by omega),if_neg (by omega),if_neg (by omega)]
  congr 1; omega
 ·by_cases h2:j = k
  ·subst h2
   rw [swp_right dk _ _ (by omega),h.2,if_neg (by omega),if_pos (by omega),if_neg (by omega),if_pos (by omega)]
   congr 1; omega
  ·rw [swp_other dk _ _ _ h1 h2,h.2]
   by_cases c1:j < k + 1 ∨ m + 1 ≤ j
   ·rw [if_pos c1,if_pos (by omega)]
   ·rw [if_neg c1,if_neg (by omega),if_neg (by omega),if_neg (by omega)]
    congr 1; omega
end
section
variable {α:Type} [Inhabited α] (lt:α → α → Bool) (tg:α → Nat)
theorem bef_nlt (hS:SWO lt) {x y:α} (h:Bef lt tg x y):lt y x = false:=by
 rcases h with a | ⟨_,b,_⟩
 ·cases e:lt y x with
  | false=>rfl
  | true=>exact absurd (hS.trans _ _ _ a e) (by rw [hS.irrefl]; decide)
 ·exact b
theorem lt_low (hS:SWO lt) {x y z:α} (h:Bef lt tg x y) (g:lt y z = true):lt x z = true:=by
 cases e:lt x z with
 | true=>rfl
 | false=>exact absurd (hS.ntrans _ _ _ (bef_nlt lt tg hS h) e) (by rw [g]; decide)
theorem nlt_high (hS:SWO lt) {x y z:α} (h:Bef lt tg x y) (g:lt x z = false):lt y z = false:=hS.ntrans _ _ _ (bef_nlt lt tg hS h) g
theorem lt_high (hS:SWO lt) {x y z:α} (h:Bef lt tg x y) (g:lt z x = true):lt z y = true:=by
 cases e:lt z y with
 | true=>rfl
 | false=>exact absurd (hS.ntrans _ _ _ e (bef_nlt lt tg hS h)) (by rw [g]; decide)
theorem nlt_low (hS:SWO lt) {x y z:α} (h:Bef lt tg x y) (g:lt z y = false):lt z x = false:=hS.ntrans _ _ _ g (bef_nlt lt tg hS h)
theorem one_left (hS:SWO lt) {a b i:Nat} {d d1:Array α} (hmi:a + 1 ≤ i) (hib:i ≤ b) (hb:b ≤ d.size) (hR:Rise lt tg (a + 1) b d) (hT:Tags tg a (a + 1) b d)
  (lo:∀ h,a + 1 ≤ h → h < i → lt d[h]! d[a]! = true) (hi:∀ h,i ≤ h → h < b → lt d[h]! d[a]! = false) (hr:RotOf a (a + 1) i d d1):PermIn a b d d1 ∧ Rise lt tg a b d1:=by
 refine ⟨permIn_mono _ _ a i a b (Nat.le_refl _) hib hb (rot_perm (by omega) (by omega) (by omega) hr),fun x y h1 h2 h3=>?_⟩
 rw [hr.2,hr.2]
 by_cases cx:x < i - 1
 ·rw [if_neg (by omega),if_pos (by omega)]
  by_cases cy:y < i - 1
  ·rw [if_neg (by omega),if_pos (by omega)]; exact hR _ _ (by omega) (by omega) (by omega)
  ·by_cases cz:y = i - 1
   ·rw [if_neg (by omega),if_neg (by omega),show a + (y - (a + (i - (a + 1)))) = a by omega]; exact Or.inl (lo _ (by omega) (by omega))
   ·rw [if_pos (by omega)]; exact hR _ _ (by omega) (by omega) (by omega)
 ·by_cases cz:x = i - 1
  ·rw [if_neg (by omega),if_neg (by omega),if_pos (by omega),show a + (x - (a + (i - (a + 1)))) = a by omega]
   exact bef_low lt tg hS (hT _ _ (Nat.le_refl _) (by omega) (by omega) (by omega)) (hi _ (by omega) (by omega))
  ·rw [if_pos (by omega),if_pos (by omega)]; exact hR _ _ (by omega) (by omega) (by omega)
theorem one_right (hS:SWO lt) {a m i:Nat} {d d1:Array α} (hai:a ≤ i) (him:i ≤ m) (hb:m + 1 ≤ d.size) (hL:Rise lt tg a m d) (hT:Tags tg a m (m + 1) d)
  (lo:∀ h,a ≤ h → h < i → lt d[m]! d[h]! = false) (hi:∀ h,i ≤ h → h < m → lt d[m]! d[h]! = true) (hr:RotOf i m (m + 1) d d1):PermIn a (m + 1) d d1 ∧ Rise lt tg a (m + 1) d1:=by
 refine ⟨permIn_mono _ _ i (m + 1) a (m + 1) hai (Nat.le_refl _) hb (rot_perm (by omega) (by omega) (by omega) hr),fun x y h1 h2 h3=>?_⟩
 rw [hr.2,hr.2]
 by_cases cx:x < i
 ·rw [if_pos (by omega)]
  by_cases cy:y < i
  ·rw [if_pos (by omega)]; exact hL _ _ (by omega) (by omega) (by omega)
  ·by_cases cz:y = i
   ·rw [if_neg (by omega),if_pos (by omega),show m + (y - i) = m by omega]
    exact bef_low lt tg hS (hT _ _ (by omega) (by omega) (Nat.le_refl _) (by omega)) (lo _ (by omega) (by omega))
   ·rw [if_neg (by omega),if_neg (by omega)]; exact hL _ _ (by omega) (by omega) (by omega)
 ·by_cases cz:x = i
  ·rw [if_neg (by omega),if_pos (by omega),if_neg (by omega),if_neg (by omega),show m + (x - i) = m by omega]
   exact Or.inl (hi _ (by omega) (by omega))
  ·rw [if_neg (by omega),if_neg (by omega),if_neg (by omega),if_neg (by omega)]; exact hL _ _ (by omega) (by omega) (by omega)
theorem rise_perm {a b:Nat} {d d':Array α} (h:Rise lt tg a b d) (he:∀ i,a ≤ i → i < b → d'[i]! = d[i]!):Rise lt tg a b d':=fun i j a1 a2 a3=>by
 rw [he i a1 (by omega),he j (by omega) a3]; exact h i j a1 a2 a3
theorem tags_perm {a m b:Nat} {d d':Array α} (h:Tags tg a m b d) (he:∀ i,a ≤ i → i < b → d'[i]! = d[i]!):Tags tg a m b d':=fun i j a1 a2 a3 a4=>by
 rw [he i a1 (by omega),he j (by omega) a4]; exact h i j a1 a2 a3 a4
theorem sym_parts {a s m e b md:Nat} {d d1:Array α} (hL:Rise lt tg a m d) (hR:Rise lt tg m b d) (hT:Tags tg a m b d) (h:Cut lt tg a s m e b d) (hmd:s + (e - m) = md) (hr:RotOf s m e d d1) :
  Rise lt tg a s d1 ∧ Rise lt tg s md d1 ∧ Tags tg a s md d1 ∧ Rise lt tg md e d1 ∧ Rise lt tg e b d1 ∧ Tags tg md e b d1:=by
 subst hmd
 exact cut_parts lt tg hL hR hT h hr
theorem sym_done {a s m e b md:Nat} {d d1 d2 d3:Array α} (hb:b ≤ d.size) (hL:Rise lt tg a m d) (hR:Rise lt tg m b d) (h:Cut lt tg a s m e b d) (hmd:s + (e - m) = md) (hr:RotOf s m e d d1)
  (p2:PermIn a md d1 d2) (r2:Rise lt tg a md d2) (p3:PermIn md b d2 d3) (r3:Rise lt tg md b d3):PermIn a b d d3 ∧ Rise lt tg a b d3:=by
 subst hmd
 exact cut_done lt tg hb hL hR h hr p2 r2 p3 r3
end
end Sa
end Go.Proofs.YtgpcilepkmckeaaGreatDoor

/-
Which field a name is of: isAny, and the library's ContainsFunc and IndexFunc beneath it. What a value has within, by its kind: type assertions, the kind's name; demand's panic. What must be of a kind: what is within, or that panic; values of a text, a count, a yes. Try: of a function that returns, of one that panics with a Wrong, of one that panics with a text, of none. readYes; Read, by the kind of the field: what it tells is what the kind's own reader tells. awake: what every program must know.
-/
import Derived.Test.YthmpepnikmdjpaaGreatDoorCStzSame
import Derived.Test.YthmpepnikmdjpaaGreatDoorCVerDef
import Derived.Laws.Entries
import Derived.WalkLawsBesides
import Derived.Handy
import Derived.Lib.Strings
import Derived.Defers
import Derived.Recover
import Derived.Laws.Pointers
namespace Go.Proofs.YthmpepnikmdjpaaGreatDoor
open Go.RowKit
set_option linter.unusedSimpArgs false
set_option linter.unusedVariables false
namespace Va
open Stz (sameS)
theorem below_drewN (w:World):∀ n,Below w.heap.size w (w.drewN n)
 | 0=>Below.refl _ _
 | n + 1=>(below_drewN w.drew n).mono (Nat.le_refl _) |> fun h=>⟨h.os,h.tape,h.output,h.size,h.block⟩
theorem lt_cell {w:World} {p:Addr} {v:Value} (h:w.cell? p = some v):p.block < w.heap.size:=by
 unfold World.cell? at h
 cases hb:w.heap[p.block]? with
 | none=>rw [hb] at h; cases h
 | some x=>exact (Array.getElem?_eq_some_iff.1 hb).1
set_option maxRecDepth 100000 in
theorem isAnyF_any (f name:ByteArray) (p:Addr) (w:World) (hp:w.cell? p = some (.string name)) (hs:f.size ≤ 9223372036854775807) :
  Calls Tryz.prog 155 #[.string f,.pointer (some p)] w fun e w'=>e = .returned (.bool (sameS f name)) ∧ ∃ n,w' = w.drewN n:=by
 have c:=Stz.same_any f name w hs
 generalize sameS f name = R at *
 go_enter Tryz.func155,Tryz.ntmps155
 go_wp2_with fail
 refine c.mono ?_
 rintro e w' ⟨rfl,hn⟩
 go_wp2_with fail
 go_ret
 exact ⟨rfl,hn⟩
def idx (name:ByteArray) (fs:List ByteArray):Int:=if fs.any (sameS · name) then (fs.findIdx (sameS · name):Nat) else -1
theorem idx_yes {name:ByteArray} {fs:List ByteArray} {k:Nat} (hk:k < fs.length) (h:∀ j,j < k → sameS (fs.getD j ByteArray.empty) name = false) (h1:sameS (fs.getD k ByteArray.empty) name = true):idx name fs = (k:Int):=by
 have hg:∀ j (hj:j < fs.length),fs.getD j ByteArray.empty = fs[j]:=fun j hj=>by simp [List.getD,List.getElem?_eq_getElem hj]
 unfold idx
 rw [if_pos (List.any_eq_true.2 ⟨fs[k],List.getElem_mem hk,by rw [← hg k hk]; exact h1⟩)]
 congr 1
 rw [List.findIdx_eq hk]
 exact ⟨by rw [← hg k hk]; exact h1,fun j hj=>by rw [← hg j (by omega)]; exact h j hj⟩
theorem idx_no {name:ByteArray} {fs:List ByteArray} (h:∀ j,j < fs.length → sameS (fs.getD j ByteArray.empty) name = false):idx name fs = -1:=by
 unfold idx
 rw [if_neg]
 rw [List.any_eq_true]
 rintro ⟨x,hx,h1⟩
 obtain ⟨j,hj,rfl⟩:=List.mem_iff_getElem.1 hx
 have:=h j hj
 simp only [List.getD,List.getElem?_eq_getElem hj,Option.getD_some] at this
 rw [this] at h1; cases h1
theorem idx_ge (name:ByteArray) (fs:List ByteArray):decide (0 ≤ idx name fs) = fs.any (sameS · name):=by
 unfold idx
 cases fs.any (sameS · name)
 ·simp
 ·simp
set_option maxRecDepth 100000 in
set_option maxHeartbeats 1000000 in
theorem indexFunc_any (fs:List ByteArray) (name:ByteArray) (k o cap:Nat) (p:Addr) (w:World) (hp:w.cell? p = some (.string name)) (hf:∀ j,j < fs.length → w.cell? ⟨k,o + j,none⟩ = some (.string (fs.getD j ByteArray.empty))) (hL:fs.length ≤ 1000) (hcap:fs.length ≤ cap) (hs:∀ f ∈ fs,f.size ≤ 1000) :
  Calls Tryz.prog 204 #[.slice (some ⟨k,o,none⟩) fs.length cap,.func (.func 155) #[] #[.pointer (some p)]] w fun e w'=>e = .returned (.int .i64 (idx name fs)) ∧ ∃ n,w' = w.drewN n:=by
 obtain ⟨G,hG⟩:∃ G,idx name fs = G:=⟨_,rfl⟩
 have HG:=Lib.hid hG
 have HF:=Lib.hid hf
 have HS:=Lib.hid hs
 have HP:=Lib.hid hp
 obtain ⟨n,hn⟩:∃ n,fs.length = n:=⟨_,rfl⟩
 have HN:=Lib.hid hn
 rw [hG,hn]
 rw [hn] at hL hcap
 clear hG hf hs hn hp
 go_enter Tryz.func204,Tryz.ntmps204
 go_wp2_with fail
 go_loopg [8] n (fun gf s8 wx=>∃ i:Nat,s8 = .int .i64 i ∧ (∃ q,wx = w.drewN q) ∧ Hid (∀ j,j < i → sameS (fs.getD j ByteArray.empty) name = false) ∧ i ≤ n ∧ n ≤ i + gf)
 case atStart=>exact ⟨0,rfl,⟨0,rfl⟩,fun j hj=>absurd hj (by omega),by omega,by omega⟩
 case round =>
  obtain ⟨i,rfl,hbw,HI,hin,hfu⟩:=hrel
  by_cases hlt:i < n
  ·obtain ⟨g',rfl⟩:∃ g',gk = g' + 1:=⟨gk - 1,by omega⟩
   have hlt':(i:Int) < (n:Int):=by omega
   have hi0:(0:Int) ≤ i:=by omega
   obtain ⟨q,rfl⟩:=hbw
   have hc:(w.drewN q).cell? ⟨k,o + i,none⟩ = some (.string (fs.getD i ByteArray.empty)):=HF.out i (by rw [HN.out]; exact hlt)
   have hp':(w.drewN q).cell? p = some (.string name):=HP.out
   have hfs:(fs.getD i ByteArray.empty).size ≤ 1000:=HS.out _ (by
    have:i < fs.length:=by rw [HN.out]; exact hlt
    simp [List.getD,List.getElem?_eq_getElem this])
   have c:=isAnyF_any (fs.getD i ByteArray.empty) name p (w.drewN q) hp' (by omega)
   cases hb:sameS (fs.getD i ByteArray.empty) name
   ·have HJ:Hid (∀ j,j < i + 1 → sameS (fs.getD j ByteArray.empty) name = false):=fun j hj=>by
     by_cases e:j = i
     ·rw [e]; exact hb
     ·exact HI.out j (by omega)
    rw [hb] at c
    clear HI hb hp' hfs
    generalize fs.getD i ByteArray.empty = f at *
    have HQ:Hid (∃ q',w.drewN q = w.drewN q'):=⟨q,rfl⟩
    generalize w.drewN q = wd at *
    go_wp2_with fail
    refine c.mono ?_
    rintro e w' ⟨rfl,m,rfl⟩
    have HM:Hid (∃ q',wd.drewN m = w.drewN q'):=by
     refine Lib.hid ?_
     obtain ⟨q',hq⟩:=HQ.out
     exact ⟨q' + m,by rw [hq,World.drewN_drewN]⟩
    generalize wd.drewN m = we at *
    go_wp2_with fail
    go_roundg g'
    case measure=>omega
    case rel=>exact ⟨i + 1,by go_num,HM.out,HJ,by omega,by omega⟩
   ·have hI:G = (i:Int):=by rw [← HG.out]; exact idx_yes (by rw [HN.out]; exact hlt) HI.out hb
    subst hI
    rw [hb] at c
    clear HI hb hp' hfs HG
    generalize fs.getD i ByteArray.empty = f at *
    have HQ:Hid (∃ q',w.drewN q = w.drewN q'):=⟨q,rfl⟩
    generalize w.drewN q = wd at *
    go_wp2_with fail
    refine c.mono ?_
    rintro e w' ⟨rfl,m,rfl⟩
    have HM:Hid (∃ q',wd.drewN m = w.drewN q'):=by
     refine Lib.hid ?_
     obtain ⟨q',hq⟩:=HQ.out
     exact ⟨q' + m,by rw [hq,World.drewN_drewN]⟩
    generalize wd.drewN m = we at *
    go_wp2_with fail
    go_ret
    exact ⟨rfl,HM.out⟩
  ·have hi:i = n:=by omega
   subst hi
   have hI:G = -1:=by rw [← HG.out]; exact idx_no (by rw [HN.out]; exact HI.out)
   subst hI
   clear HI HG
   go_wp2_with fail
   go_ret
   exact ⟨rfl,hbw⟩
set_option maxRecDepth 100000 in
set_option maxHeartbeats 1000000 in
theorem containsFunc_any (fs:List ByteArray) (name:ByteArray) (k o cap:Nat) (p:Addr) (w:World) (hp:w.cell? p = some (.string name)) (hf:∀ j,j < fs.length → w.cell? ⟨k,o + j,none⟩ = some (.string (fs.getD j ByteArray.empty))) (hL:fs.length ≤ 1000) (hcap:fs.length ≤ cap) (hs:∀ f ∈ fs,f.size ≤ 1000) :
  Calls Tryz.prog 154 #[.slice (some ⟨k,o,none⟩) fs.length cap,.func (.func 155) #[] #[.pointer (some p)]] w fun e w'=>e = .returned (.bool (fs.any (sameS · name))) ∧ ∃ n,w' = w.drewN n:=by
 have c:=indexFunc_any fs name k o cap p w hp hf hL hcap hs
 rw [← idx_ge]
 generalize idx name fs = G at *
 clear hp hf hs
 go_enter Tryz.func154,Tryz.ntmps154
 go_wp2_with fail
 refine c.mono ?_
 rintro e w' ⟨rfl,hn⟩
 go_wp2_with fail
 go_ret
 exact ⟨rfl,hn⟩
set_option maxRecDepth 100000 in
set_option maxHeartbeats 1000000 in
theorem isAny_any (fs:List ByteArray) (name:ByteArray) (k o cap:Nat) (w:World) (hf:∀ j,j < fs.length → w.cell? ⟨k,o + j,none⟩ = some (.string (fs.getD j ByteArray.empty))) (hL:fs.length ≤ 1000) (hcap:fs.length ≤ cap) (hs:∀ f ∈ fs,f.size ≤ 1000) :
  Calls Tryz.prog 104 #[.string name,.slice (some ⟨k,o,none⟩) fs.length cap] w fun e w'=>e = .returned (.bool (fs.any (sameS · name))) ∧ Below w.heap.size w w':=by
 have hb0:=Blk.Is.new w 9 #[.string name]
 have hB0:Below w.heap.size w (w.alloc (.cells #[.string name] 9)):=(Below.refl _ _).alloc (Nat.le_refl _) _
 have hf2:∀ j,j < fs.length → (w.alloc (.cells #[.string name] 9)).cell? ⟨k,o + j,none⟩ = some (.string (fs.getD j ByteArray.empty)):=fun j hj=>by
  rw [hB0.cell (lt_cell (hf j hj))]; exact hf j hj
 have c:=containsFunc_any fs name k o cap ⟨w.heap.size,0,none⟩ _ (hb0.at (i:=0) rfl) hf2 hL hcap hs
 have hmf:∀ (fn:Fn) (first cap:Array Value) (w:World),(Instr.makeFunc fn first cap).run Tryz.prog w = .ok (.func fn first cap) w:=fun _ _ _ _=>rfl
 generalize fs.any (sameS · name) = G at *
 clear hf hf2 hs
 go_enter Tryz.func104,Tryz.ntmps104
 go_wp2_with fail
 refine c.mono ?_
 rintro e w' ⟨rfl,m,rfl⟩
 have kb:=hB0.trans ((below_drewN (w.alloc (.cells #[.string name] 9)) m).mono hB0.size)
 generalize (w.alloc (.cells #[.string name] 9)).drewN m = we at *
 clear hb0 hB0 c
 go_wp2_with fail
 go_ret
 exact ⟨rfl,kb⟩
end Va
end Go.Proofs.YthmpepnikmdjpaaGreatDoor
namespace Go.Proofs.YthmpepnikmdjpaaGreatDoor
open Go.RowKit
set_option linter.unusedSimpArgs false
set_option linter.unusedVariables false
namespace Va
def asT (T:TypeId) (z iv:Value):Value:=match iv with
 | .iface t x=>if t = T then x else z
 | _=>z
def asB (T:TypeId) (iv:Value):Bool:=match iv with
 | .iface t _=>decide (t = T)
 | _=>false
def IsI (iv:Value):Prop:=iv = .nilIface ∨ ∃ t x,iv = .iface t x
theorem run_assert {P:Program} {T:TypeId} {u:TypeDesc} {z:Value} (hu:P.underlying T = some u) (hn:∀ ms,u ≠ .interface ms) (hz:(P.info? T).map (·.zero) = some (some z)) {iv:Value} (h:IsI iv) (xT:TypeId) (w:World) :
  (Instr.typeAssert iv xT T true).run P w = .ok (.tuple #[asT T z iv,.bool (asB T iv)]) w:=by
 obtain ⟨i,hi,hz⟩:=Option.map_eq_some_iff.1 hz
 rcases h with rfl | ⟨t,x,rfl⟩
 ·cases u <;> first
   | exact absurd rfl (hn _)
   | simp [Instr.typeAssert,run_underlying hu,typeInfo,zeroValue,hi,hz,asT,asB]
 ·by_cases e:t = T
  ·cases u <;> first
    | exact absurd rfl (hn _)
    | simp [Instr.typeAssert,run_underlying hu,e,asT,asB]
  ·cases u <;> first
    | exact absurd rfl (hn _)
    | simp [Instr.typeAssert,run_underlying hu,e,typeInfo,zeroValue,hi,hz,asT,asB]
theorem as_text {iv:Value} (h:IsI iv) (w:World):(Instr.typeAssert iv 20 9 true).run Tryz.prog w = .ok (.tuple #[asT 9 (.string .empty) iv,.bool (asB 9 iv)]) w :=
 run_assert Tryz.underlying9 (fun _ e=>by cases e) (by kernel_rfl) h _ w
theorem as_count {iv:Value} (h:IsI iv) (w:World):(Instr.typeAssert iv 20 3 true).run Tryz.prog w = .ok (.tuple #[asT 3 (.int .i64 0) iv,.bool (asB 3 iv)]) w :=
 run_assert Tryz.underlying3 (fun _ e=>by cases e) (by kernel_rfl) h _ w
theorem as_yes {iv:Value} (h:IsI iv) (w:World):(Instr.typeAssert iv 20 4 true).run Tryz.prog w = .ok (.tuple #[asT 4 (.bool false) iv,.bool (asB 4 iv)]) w :=
 run_assert Tryz.underlying4 (fun _ e=>by cases e) (by kernel_rfl) h _ w
theorem as_clauses {iv:Value} (h:IsI iv) (w:World):(Instr.typeAssert iv 20 27 true).run Tryz.prog w = .ok (.tuple #[asT 27 (.slice none 0 0) iv,.bool (asB 27 iv)]) w :=
 run_assert Tryz.underlying27 (fun _ e=>by cases e) (by kernel_rfl) h _ w
theorem as_atoms {iv:Value} (h:IsI iv) (w:World):(Instr.typeAssert iv 20 28 true).run Tryz.prog w = .ok (.tuple #[asT 28 (.slice none 0 0) iv,.bool (asB 28 iv)]) w :=
 run_assert Tryz.underlying28 (fun _ e=>by cases e) (by kernel_rfl) h _ w
theorem as_provides {iv:Value} (h:IsI iv) (w:World):(Instr.typeAssert iv 20 29 true).run Tryz.prog w = .ok (.tuple #[asT 29 (.slice none 0 0) iv,.bool (asB 29 iv)]) w :=
 run_assert Tryz.underlying29 (fun _ e=>by cases e) (by kernel_rfl) h _ w
set_option maxRecDepth 100000 in
theorem textM_any (iv:Value) (h:IsI iv) (w:World) :
  Calls Tryz.prog 163 #[.agg #[iv]] w fun e w'=>e = .returned (.tuple #[asT 9 (.string .empty) iv,.bool (asB 9 iv)]) ∧ Below w.heap.size w w':=by
 have ha:=as_text h
 generalize asT 9 (.string .empty) iv = A at *
 generalize asB 9 iv = B at *
 go_enter Tryz.func163,Tryz.ntmps163
 go_wp2_with fail
 go_returns
 exact ⟨rfl,(Below.refl _ _).alloc (Nat.le_refl _) _⟩
set_option maxRecDepth 100000 in
theorem yesM_any (iv:Value) (h:IsI iv) (w:World) :
  Calls Tryz.prog 164 #[.agg #[iv]] w fun e w'=>e = .returned (.tuple #[asT 4 (.bool false) iv,.bool (asB 4 iv)]) ∧ Below w.heap.size w w':=by
 have ha:=as_yes h
 generalize asT 4 (.bool false) iv = A at *
 generalize asB 4 iv = B at *
 go_enter Tryz.func164,Tryz.ntmps164
 go_wp2_with fail
 go_returns
 exact ⟨rfl,(Below.refl _ _).alloc (Nat.le_refl _) _⟩
set_option maxRecDepth 100000 in
theorem clausesM_any (iv:Value) (h:IsI iv) (w:World) :
  Calls Tryz.prog 165 #[.agg #[iv]] w fun e w'=>e = .returned (.tuple #[asT 27 (.slice none 0 0) iv,.bool (asB 27 iv)]) ∧ Below w.heap.size w w':=by
 have ha:=as_clauses h
 generalize asT 27 (.slice none 0 0) iv = A at *
 generalize asB 27 iv = B at *
 go_enter Tryz.func165,Tryz.ntmps165
 go_wp2_with fail
 go_returns
 exact ⟨rfl,(Below.refl _ _).alloc (Nat.le_refl _) _⟩
set_option maxRecDepth 100000 in
theorem atomsM_any (iv:Value) (h:IsI iv) (w:World) :
  Calls Tryz.prog 167 #[.agg #[iv]] w fun e w'=>e = .returned (.tuple #[asT 28 (.slice none 0 0) iv,.bool (asB 28 iv)]) ∧ Below w.heap.size w w':=by
 have ha:=as_atoms h
 generalize asT 28 (.slice none 0 0) iv = A at *
 generalize asB 28 iv = B at *
 go_enter Tryz.func167,Tryz.ntmps167
 go_wp2_with fail
 go_returns
 exact ⟨rfl,(Below.refl _ _).alloc (Nat.le_refl _) _⟩
set_option maxRecDepth 100000 in
theorem providesM_any (iv:Value) (h:IsI iv) (w:World) :
  Calls Tryz.prog 169 #[.agg #[iv]] w fun e w'=>e = .returned (.tuple #[asT 29 (.slice none 0 0) iv,.bool (asB 29 iv)]) ∧ Below w.heap.size w w':=by
 have ha:=as_provides h
 generalize asT 29 (.slice none 0 0) iv = A at *
 generalize asB 29 iv = B at *
 go_enter Tryz.func169,Tryz.ntmps169
 go_wp2_with fail
 go_returns
 exact ⟨rfl,(Below.refl _ _).alloc (Nat.le_refl _) _⟩
set_option maxRecDepth 100000 in
theorem text_any (iv:Value) (h:IsI iv) (w:World) :
  Calls Tryz.prog 113 #[.agg #[iv]] w fun e w'=>e = .returned (.tuple #[asT 9 (.string .empty) iv,.bool (asB 9 iv)]) ∧ Below w.heap.size w w':=by
 have hb0:=(Blk.Is.new w 97 #[iv]).at (i:=0) rfl
 have hB0:Below w.heap.size w (w.alloc (.cells #[iv] 97)):=(Below.refl _ _).alloc (Nat.le_refl _) _
 have c:=textM_any iv h (w.alloc (.cells #[iv] 97))
 generalize asT 9 (.string .empty) iv = A at *
 generalize asB 9 iv = B at *
 clear h
 go_enter Tryz.func113,Tryz.ntmps113
 go_wp2_with fail
 refine c.mono ?_
 rintro e w' ⟨rfl,kb⟩
 have k:=hB0.trans (kb.mono hB0.size)
 clear kb hB0 hb0 c
 go_wp2_with fail
 go_returns
 exact ⟨rfl,k⟩
set_option maxRecDepth 100000 in
theorem yes_any (iv:Value) (h:IsI iv) (w:World) :
  Calls Tryz.prog 114 #[.agg #[iv]] w fun e w'=>e = .returned (.tuple #[asT 4 (.bool false) iv,.bool (asB 4 iv)]) ∧ Below w.heap.size w w':=by
 have hb0:=(Blk.Is.new w 97 #[iv]).at (i:=0) rfl
 have hB0:Below w.heap.size w (w.alloc (.cells #[iv] 97)):=(Below.refl _ _).alloc (Nat.le_refl _) _
 have c:=yesM_any iv h (w.alloc (.cells #[iv] 97))
 generalize asT 4 (.bool false) iv = A at *
 generalize asB 4 iv = B at *
 clear h
 go_enter Tryz.func114,Tryz.ntmps114
 go_wp2_with fail
 refine c.mono ?_
 rintro e w' ⟨rfl,kb⟩
 have k:=hB0.trans (kb.mono hB0.size)
 clear kb hB0 hb0 c
 go_wp2_with fail
 go_returns
 exact ⟨rfl,k⟩
def kindT (t:TypeId):ByteArray:=if t = 9 then ⟨#[116,101,120,116]⟩ else if t = 3 then ⟨#[99,111,117,110,116]⟩ else if t = 4 then ⟨#[121,101,115]⟩ else if t = 27 then ⟨#[99,108,97,117,115,101,115]⟩ else if t = 28 then ⟨#[97,116,111,109,115]⟩ else if t = 29 then ⟨#[112,114,111,118,105,100,101,115]⟩ else ⟨#[110,111,110,101]⟩
def kindI:Value → ByteArray
 | .iface t _=>kindT t
 | _=>⟨#[110,111,110,101]⟩
def IvOK (iv:Value):Prop:=iv = .nilIface ∨ ∃ t x,iv = .iface t x ∧ (t = 9 ∨ t = 3 ∨ t = 4 ∨ t = 27 ∨ t = 28 ∨ t = 29)
theorem IvOK.is {iv:Value} (h:IvOK iv):IsI iv:=by
 rcases h with rfl | ⟨t,x,rfl,_⟩
 ·exact .inl rfl
 ·exact .inr ⟨_,_,rfl⟩
set_option maxRecDepth 100000 in
set_option maxHeartbeats 4000000 in
theorem kindM_any (iv:Value) (h:IvOK iv) (w:World) :
  Calls Tryz.prog 203 #[.agg #[iv]] w fun e w'=>e = .returned (.string (kindI iv)) ∧ Below w.heap.size w w':=by
 have h1:=as_text h.is
 have h2:=as_count h.is
 have h3:=as_yes h.is
 have h4:=as_clauses h.is
 have h5:=as_atoms h.is
 have h6:=as_provides h.is
 rcases h with rfl | ⟨t,x,rfl,rfl | rfl | rfl | rfl | rfl | rfl⟩
 all_goals
  simp [asT,asB] at h1 h2 h3 h4 h5 h6
  go_enter Tryz.func203,Tryz.ntmps203
  go_wp2_with fail
  go_ret
  exact ⟨rfl,(Below.refl _ _).alloc (Nat.le_refl _) _⟩
set_option maxRecDepth 100000 in
theorem kind_any (iv:Value) (h:IvOK iv) (w:World) :
  Calls Tryz.prog 153 #[.agg #[iv]] w fun e w'=>e = .returned (.string (kindI iv)) ∧ Below w.heap.size w w':=by
 have hb0:=(Blk.Is.new w 97 #[iv]).at (i:=0) rfl
 have hB0:Below w.heap.size w (w.alloc (.cells #[iv] 97)):=(Below.refl _ _).alloc (Nat.le_refl _) _
 have c:=kindM_any iv h (w.alloc (.cells #[iv] 97))
 generalize kindI iv = A at *
 clear h
 go_enter Tryz.func153,Tryz.ntmps153
 go_wp2_with fail
 refine c.mono ?_
 rintro e w' ⟨rfl,kb⟩
 have k:=hB0.trans (kb.mono hB0.size)
 clear kb hB0 hb0 c
 go_wp2_with fail
 go_ret
 exact ⟨rfl,k⟩
end Va
end Go.Proofs.YthmpepnikmdjpaaGreatDoor
namespace Go.Proofs.YthmpepnikmdjpaaGreatDoor
open Go.RowKit
set_option linter.unusedSimpArgs false
set_option linter.unusedVariables false
namespace Va
set_option maxRecDepth 100000 in
theorem ofText_any (x:Value) (w:World):Calls Tryz.prog 112 #[x] w fun e w'=>e = .returned (.agg #[.iface 9 x]) ∧ Below w.heap.size w w':=by
 go_enter Tryz.func112,Tryz.ntmps112
 go_wp2_with fail
 go_returns
 exact ⟨rfl,(Below.refl _ _).alloc (Nat.le_refl _) _⟩
theorem not_count {iv:Value} (h:IvOK iv) (hb:asB 3 iv = false):((kindI iv).toList == (ByteArray.mk #[99,111,117,110,116]).toList) = false:=by
 rcases h with rfl | ⟨t,x,rfl,rfl | rfl | rfl | rfl | rfl | rfl⟩
 all_goals first
  | (simp [asB] at hb; done)
  | (simp [kindI,kindT,Lib.toList_data]; done)
set_option maxRecDepth 100000 in
theorem ofCount_any (x:Value) (w:World):Calls Tryz.prog 162 #[x] w fun e w'=>e = .returned (.agg #[.iface 3 x]) ∧ Below w.heap.size w w':=by
 go_enter Tryz.func162,Tryz.ntmps162
 go_wp2_with fail
 go_returns
 exact ⟨rfl,(Below.refl _ _).alloc (Nat.le_refl _) _⟩
set_option maxRecDepth 100000 in
theorem ofYes_any (x:Value) (w:World):Calls Tryz.prog 160 #[x] w fun e w'=>e = .returned (.agg #[.iface 4 x]) ∧ Below w.heap.size w w':=by
 go_enter Tryz.func160,Tryz.ntmps160
 go_wp2_with fail
 go_returns
 exact ⟨rfl,(Below.refl _ _).alloc (Nat.le_refl _) _⟩
end Va
end Go.Proofs.YthmpepnikmdjpaaGreatDoor
namespace Go.Proofs.YthmpepnikmdjpaaGreatDoor
open Go.RowKit
set_option linter.unusedSimpArgs false
set_option linter.unusedVariables false
namespace Va
theorem no_nil (K:FuncId) (cap:Array Value) (w:World):(binOp BinOp.eql 1 (.func (.func K) #[] cap) .nilFunc).run Tryz.prog w = .ok (.bool false) w:=by
 kernel_rfl
end Va
end Go.Proofs.YthmpepnikmdjpaaGreatDoor
namespace Go.Proofs.YthmpepnikmdjpaaGreatDoor
open Go.RowKit
set_option linter.unusedSimpArgs false
set_option linter.unusedVariables false
namespace Va
open Stz (sameS)
def yesT:ByteArray:=⟨#[121,101,115]⟩
def noT:ByteArray:=⟨#[110,111]⟩
set_option maxRecDepth 100000 in
theorem readYes_yes (w:World):Calls Tryz.prog 110 #[.string yesT] w fun e w'=>e = .returned (.tuple #[.agg #[.iface 4 (.bool true)],.int .i64 0]) ∧ Below w.heap.size w w':=by
 unfold yesT
 have hb0:=Blk.Is.new w 97 #[.nilIface]
 have hB0:Below w.heap.size w (w.alloc (.cells #[.nilIface] 97)):=(Below.refl _ _).alloc (Nat.le_refl _) _
 have c:=ofYes_any (.bool true) (w.alloc (.cells #[.nilIface] 97))
 go_enter Tryz.func110,Tryz.ntmps110
 go_wp2_with fail
 refine c.mono ?_
 rintro e w' ⟨rfl,kb⟩
 have hi:Blk.Is w' w.heap.size 97 #[.nilIface]:=(kb.block _ hb0.lt).trans hb0
 have hc:=hi.at (i:=0) rfl
 have hf:=hi.free 0
 have h3:=(hi.set 0 (.iface 4 (.bool true))).at (i:=0) (v:=.iface 4 (.bool true)) rfl
 have k:Below w.heap.size w (w'.setCell ⟨w.heap.size,0,none⟩ (.iface 4 (.bool true))):=(hB0.trans (kb.mono hB0.size)).setCell (Nat.le_refl _) _
 clear kb hB0 hb0 c hi
 go_wp2_with fail
 refine bodyPost_ret (v:=.tuple #[.agg #[.iface 4 (.bool true)],.int .i64 0]) (by simp [results,Tryz.results110,go_sem,h3]) rfl ⟨rfl,k⟩
set_option maxRecDepth 100000 in
theorem readYes_no (w:World):Calls Tryz.prog 110 #[.string noT] w fun e w'=>e = .returned (.tuple #[.agg #[.iface 4 (.bool false)],.int .i64 0]) ∧ Below w.heap.size w w':=by
 unfold noT
 have hb0:=Blk.Is.new w 97 #[.nilIface]
 have hB0:Below w.heap.size w (w.alloc (.cells #[.nilIface] 97)):=(Below.refl _ _).alloc (Nat.le_refl _) _
 have c:=ofYes_any (.bool false) (w.alloc (.cells #[.nilIface] 97))
 go_enter Tryz.func110,Tryz.ntmps110
 go_wp2_with fail
 refine c.mono ?_
 rintro e w' ⟨rfl,kb⟩
 have hi:Blk.Is w' w.heap.size 97 #[.nilIface]:=(kb.block _ hb0.lt).trans hb0
 have hc:=hi.at (i:=0) rfl
 have hf:=hi.free 0
 have h3:=(hi.set 0 (.iface 4 (.bool false))).at (i:=0) (v:=.iface 4 (.bool false)) rfl
 have k:Below w.heap.size w (w'.setCell ⟨w.heap.size,0,none⟩ (.iface 4 (.bool false))):=(hB0.trans (kb.mono hB0.size)).setCell (Nat.le_refl _) _
 clear kb hB0 hb0 c hi
 go_wp2_with fail
 refine bodyPost_ret (v:=.tuple #[.agg #[.iface 4 (.bool false)],.int .i64 0]) (by simp [results,Tryz.results110,go_sem,h3]) rfl ⟨rfl,k⟩
set_option maxRecDepth 100000 in
theorem readYes_else (s:ByteArray) (h1:s ≠ yesT) (h2:s ≠ noT) (w:World):Calls Tryz.prog 110 #[.string s] w fun e w'=>e = .returned (.tuple #[.agg #[.nilIface],.int .i64 3]) ∧ Below w.heap.size w w':=by
 have e1:(s.toList == [121,101,115]) = false:=beq_eq_false_iff_ne.2 fun h=>h1 (ByteArray.ext (Array.ext' (by rw [← Lib.toList_data,h]; rfl)))
 have e2:(s.toList == [110,111]) = false:=beq_eq_false_iff_ne.2 fun h=>h2 (ByteArray.ext (Array.ext' (by rw [← Lib.toList_data,h]; rfl)))
 clear h1 h2
 have hb0:=Blk.Is.new w 97 #[.nilIface]
 have h3:=hb0.at (i:=0) (v:=.nilIface) rfl
 have k:Below w.heap.size w (w.alloc (.cells #[.nilIface] 97)):=(Below.refl _ _).alloc (Nat.le_refl _) _
 go_enter Tryz.func110,Tryz.ntmps110
 go_wp2_with fail
 refine bodyPost_ret (v:=.tuple #[.agg #[.nilIface],.int .i64 3]) (by simp [results,Tryz.results110,go_sem,h3]) rfl ⟨rfl,k⟩
theorem row_cells (w:World) (T:TypeId) (fs:List ByteArray):∀ j,j < fs.length → (w.alloc (.cells (fs.map Value.string).toArray T)).cell? ⟨w.heap.size,0 + j,none⟩ = some (.string (fs.getD j ByteArray.empty)):=fun j hj=>by
 rw [Nat.zero_add]
 refine (Blk.Is.new w T (fs.map Value.string).toArray).at ?_
 simp [List.getD,List.getElem?_eq_getElem hj]
theorem isAny_new (fs:List ByteArray) (name:ByteArray) (w:World) (hL:fs.length ≤ 1000) (hs:∀ f ∈ fs,f.size ≤ 1000) :
  Calls Tryz.prog 104 #[.string name,.slice (some ⟨w.heap.size,0,none⟩) fs.length fs.length] (w.alloc (.cells (fs.map Value.string).toArray 9)) fun e w'=>e = .returned (.bool (fs.any (sameS · name))) ∧ Below w.heap.size w w':=by
 refine (isAny_any fs name w.heap.size 0 fs.length _ (row_cells w _ fs) hL (Nat.le_refl _) hs).mono ?_
 rintro e w' ⟨rfl,k⟩
 have hB:Below w.heap.size w (w.alloc (.cells (fs.map Value.string).toArray 9)):=(Below.refl _ _).alloc (Nat.le_refl _) _
 exact ⟨rfl,hB.trans (k.mono hB.size)⟩
def fs0:List ByteArray:=[(⟨#[80,97,99,107,97,103,101]⟩:ByteArray)]
def isP0 (name:ByteArray):Bool:=fs0.any (sameS · name)
theorem isAny0 (name:ByteArray) (w:World):Calls Tryz.prog 104 #[.string name,.slice (some ⟨w.heap.size,0,none⟩) 1 1] (w.alloc (.cells #[.string ⟨#[80,97,99,107,97,103,101]⟩] 9)) fun e w'=>e = .returned (.bool (isP0 name)) ∧ Below w.heap.size w w' :=
 isAny_new fs0 name w (by decide) (by decide)
def fs1:List ByteArray:=[(⟨#[86,101,114,115,105,111,110]⟩:ByteArray)]
def isP1 (name:ByteArray):Bool:=fs1.any (sameS · name)
theorem isAny1 (name:ByteArray) (w:World):Calls Tryz.prog 104 #[.string name,.slice (some ⟨w.heap.size,0,none⟩) 1 1] (w.alloc (.cells #[.string ⟨#[86,101,114,115,105,111,110]⟩] 9)) fun e w'=>e = .returned (.bool (isP1 name)) ∧ Below w.heap.size w w' :=
 isAny_new fs1 name w (by decide) (by decide)
def fs2:List ByteArray:=[(⟨#[80,114,101,45,68,101,112,101,110,100,115]⟩:ByteArray),(⟨#[68,101,112,101,110,100,115]⟩:ByteArray),(⟨#[82,101,99,111,109,109,101,110,100,115]⟩:ByteArray)]
def isP2 (name:ByteArray):Bool:=fs2.any (sameS · name)
theorem isAny2 (name:ByteArray) (w:World):Calls Tryz.prog 104 #[.string name,.slice (some ⟨w.heap.size,0,none⟩) 3 3] (w.alloc (.cells #[.string ⟨#[80,114,101,45,68,101,112,101,110,100,115]⟩,.string ⟨#[68,101,112,101,110,100,115]⟩,.string ⟨#[82,101,99,111,109,109,101,110,100,115]⟩] 9)) fun e w'=>e = .returned (.bool (isP2 name)) ∧ Below w.heap.size w w' :=
 isAny_new fs2 name w (by decide) (by decide)
def fs3:List ByteArray:=[(⟨#[67,111,110,102,108,105,99,116,115]⟩:ByteArray),(⟨#[66,114,101,97,107,115]⟩:ByteArray)]
def isP3 (name:ByteArray):Bool:=fs3.any (sameS · name)
theorem isAny3 (name:ByteArray) (w:World):Calls Tryz.prog 104 #[.string name,.slice (some ⟨w.heap.size,0,none⟩) 2 2] (w.alloc (.cells #[.string ⟨#[67,111,110,102,108,105,99,116,115]⟩,.string ⟨#[66,114,101,97,107,115]⟩] 9)) fun e w'=>e = .returned (.bool (isP3 name)) ∧ Below w.heap.size w w' :=
 isAny_new fs3 name w (by decide) (by decide)
def fs4:List ByteArray:=[(⟨#[80,114,111,118,105,100,101,115]⟩:ByteArray)]
def isP4 (name:ByteArray):Bool:=fs4.any (sameS · name)
theorem isAny4 (name:ByteArray) (w:World):Calls Tryz.prog 104 #[.string name,.slice (some ⟨w.heap.size,0,none⟩) 1 1] (w.alloc (.cells #[.string ⟨#[80,114,111,118,105,100,101,115]⟩] 9)) fun e w'=>e = .returned (.bool (isP4 name)) ∧ Below w.heap.size w w' :=
 isAny_new fs4 name w (by decide) (by decide)
def fs5:List ByteArray:=[(⟨#[69,115,115,101,110,116,105,97,108]⟩:ByteArray),(⟨#[72,111,108,100]⟩:ByteArray),(⟨#[67,111,110,102,105,103,117,114,101,100]⟩:ByteArray)]
def isP5 (name:ByteArray):Bool:=fs5.any (sameS · name)
theorem isAny5 (name:ByteArray) (w:World):Calls Tryz.prog 104 #[.string name,.slice (some ⟨w.heap.size,0,none⟩) 3 3] (w.alloc (.cells #[.string ⟨#[69,115,115,101,110,116,105,97,108]⟩,.string ⟨#[72,111,108,100]⟩,.string ⟨#[67,111,110,102,105,103,117,114,101,100]⟩] 9)) fun e w'=>e = .returned (.bool (isP5 name)) ∧ Below w.heap.size w w' :=
 isAny_new fs5 name w (by decide) (by decide)
def fs6:List ByteArray:=[(⟨#[80,114,105,111,114,105,116,121]⟩:ByteArray)]
def isP6 (name:ByteArray):Bool:=fs6.any (sameS · name)
theorem isAny6 (name:ByteArray) (w:World):Calls Tryz.prog 104 #[.string name,.slice (some ⟨w.heap.size,0,none⟩) 1 1] (w.alloc (.cells #[.string ⟨#[80,114,105,111,114,105,116,121]⟩] 9)) fun e w'=>e = .returned (.bool (isP6 name)) ∧ Below w.heap.size w w' :=
 isAny_new fs6 name w (by decide) (by decide)
structure Told (A:Nat → World → Value → Int → Prop):Prop where
 on:∀ B u u' v er,A B u v er → Blk.Chg (fun k=>k < B) u u' → A B u' v er
 mono:∀ B B' u v er,B' ≤ B → A B u v er → A B' u v er
set_option maxRecDepth 100000 in
set_option maxHeartbeats 1000000 in
theorem read_k0 (name s:ByteArray) (h0:isP0 name = true) (w:World) (A:Nat → World → Value → Int → Prop) (hA:Told A) (c:∀ w',Below w.heap.size w w' → Calls Tryz.prog 105 #[.string s] w' fun e w''=>∃ v er,e = .returned (.tuple #[.agg #[v],.int .i64 er]) ∧ IsI v ∧ Below w'.heap.size w' w'' ∧ A w'.heap.size w'' v er) :
  Calls Tryz.prog 65 #[.string name,.string s] w fun e w'=>∃ v er,e = .returned (.tuple #[.agg #[v],.int .i64 er]) ∧ IsI v ∧ Below w.heap.size w w' ∧ A w.heap.size w' v er:=by
 have hb0:=Blk.Is.new w 97 #[.nilIface]
 have hB0:Below w.heap.size w (w.alloc (.cells #[.nilIface] 97)):=(Below.refl _ _).alloc (Nat.le_refl _) _
 have hs0:(w.alloc (.cells #[.nilIface] 97)).heap.size = w.heap.size + 1:=by simp
 have C:=Lib.hid c
 clear c
 have c0:=isAny0 name (w.alloc (.cells #[.nilIface] 97))
 rw [h0,hs0] at c0
 go_enter Tryz.func65,Tryz.ntmps65
 go_wp2_with fail
 refine c0.mono ?_
 rintro e w1 ⟨rfl,k1⟩
 have hb1:Blk.Is w1 w.heap.size 97 #[.nilIface]:=(k1.block _ (by omega)).trans hb0
 have hB1:=hB0.trans (k1.mono (by omega))
 have hs1:w.heap.size + 1 ≤ w1.heap.size:=hs0 ▸ k1.size
 clear hb0 hB0 hs0 k1 c0
 go_wp2_with fail
 refine (C.out _ hB1).mono ?_
 rintro e W ⟨v,er,rfl,hv,kb,ha⟩
 have hi:Blk.Is W w.heap.size 97 #[.nilIface]:=(kb.block _ hb1.lt).trans hb1
 have hc:=hi.at (i:=0) rfl
 have hf:=hi.free 0
 have h9:=(hi.set 0 v).at (i:=0) (v:=v) rfl
 have k:Below w.heap.size w (W.setCell ⟨w.heap.size,0,none⟩ v):=(hB1.trans (kb.mono hB1.size)).setCell (Nat.le_refl _) _
 have HA:=Lib.hid (hA.mono _ w.heap.size _ _ _ (by omega) (hA.on _ _ (W.setCell ⟨w.heap.size,0,none⟩ v) _ _ ha ((Blk.Chg.refl _ W).setAt (b:=w.heap.size) (o:=0) (u:=v) (Nat.lt_of_lt_of_le (Nat.lt_succ_self _) hs1))))
 clear kb hB1 hb1 hs1 hi ha C
 rcases hv with rfl | ⟨t,x,rfl⟩
 ·go_wp2_with fail
  refine bodyPost_ret (v:=.tuple #[.agg #[.nilIface],.int .i64 er]) ?_ rfl ?_
  ·simp [results,Tryz.results65,go_sem,h9]
  ·exact ⟨_,_,rfl,.inl rfl,k,HA.out⟩
 ·go_wp2_with fail
  refine bodyPost_ret (v:=.tuple #[.agg #[.iface t x],.int .i64 er]) ?_ rfl ?_
  ·simp [results,Tryz.results65,go_sem,h9]
  ·exact ⟨_,_,rfl,.inr ⟨_,_,rfl⟩,k,HA.out⟩
set_option maxRecDepth 100000 in
set_option maxHeartbeats 1000000 in
theorem read_k1 (name s:ByteArray) (h0:isP0 name = false) (h1:isP1 name = true) (w:World) (A:Nat → World → Value → Int → Prop) (hA:Told A) (c:∀ w',Below w.heap.size w w' → Calls Tryz.prog 106 #[.string s] w' fun e w''=>∃ v er,e = .returned (.tuple #[.agg #[v],.int .i64 er]) ∧ IsI v ∧ Below w'.heap.size w' w'' ∧ A w'.heap.size w'' v er) :
  Calls Tryz.prog 65 #[.string name,.string s] w fun e w'=>∃ v er,e = .returned (.tuple #[.agg #[v],.int .i64 er]) ∧ IsI v ∧ Below w.heap.size w w' ∧ A w.heap.size w' v er:=by
 have hb0:=Blk.Is.new w 97 #[.nilIface]
 have hB0:Below w.heap.size w (w.alloc (.cells #[.nilIface] 97)):=(Below.refl _ _).alloc (Nat.le_refl _) _
 have hs0:(w.alloc (.cells #[.nilIface] 97)).heap.size = w.heap.size + 1:=by simp
 have C:=Lib.hid c
 clear c
 have c0:=isAny0 name (w.alloc (.cells #[.nilIface] 97))
 rw [h0,hs0] at c0
 have c1:=fun w=>isAny1 name w
 rw [h1] at c1
 go_enter Tryz.func65,Tryz.ntmps65
 go_wp2_with fail
 refine c0.mono ?_
 rintro e w1 ⟨rfl,k1⟩
 have hb1:Blk.Is w1 w.heap.size 97 #[.nilIface]:=(k1.block _ (by omega)).trans hb0
 have hB1:=hB0.trans (k1.mono (by omega))
 have hs1:w.heap.size + 1 ≤ w1.heap.size:=hs0 ▸ k1.size
 clear hb0 hB0 hs0 k1 c0
 go_wp2_with fail
 refine (c1 _).mono ?_
 rintro e w2 ⟨rfl,k2⟩
 have hb2:Blk.Is w2 w.heap.size 97 #[.nilIface]:=(k2.block _ hb1.lt).trans hb1
 have hB2:=hB1.trans (k2.mono hB1.size)
 have hs2:w.heap.size + 1 ≤ w2.heap.size:=Nat.le_trans hs1 k2.size
 clear hb1 hB1 hs1 k2 c1
 go_wp2_with fail
 refine (C.out _ hB2).mono ?_
 rintro e W ⟨v,er,rfl,hv,kb,ha⟩
 have hi:Blk.Is W w.heap.size 97 #[.nilIface]:=(kb.block _ hb2.lt).trans hb2
 have hc:=hi.at (i:=0) rfl
 have hf:=hi.free 0
 have h9:=(hi.set 0 v).at (i:=0) (v:=v) rfl
 have k:Below w.heap.size w (W.setCell ⟨w.heap.size,0,none⟩ v):=(hB2.trans (kb.mono hB2.size)).setCell (Nat.le_refl _) _
 have HA:=Lib.hid (hA.mono _ w.heap.size _ _ _ (by omega) (hA.on _ _ (W.setCell ⟨w.heap.size,0,none⟩ v) _ _ ha ((Blk.Chg.refl _ W).setAt (b:=w.heap.size) (o:=0) (u:=v) (Nat.lt_of_lt_of_le (Nat.lt_succ_self _) hs2))))
 clear kb hB2 hb2 hs2 hi ha C
 rcases hv with rfl | ⟨t,x,rfl⟩
 ·go_wp2_with fail
  refine bodyPost_ret (v:=.tuple #[.agg #[.nilIface],.int .i64 er]) ?_ rfl ?_
  ·simp [results,Tryz.results65,go_sem,h9]
  ·exact ⟨_,_,rfl,.inl rfl,k,HA.out⟩
 ·go_wp2_with fail
  refine bodyPost_ret (v:=.tuple #[.agg #[.iface t x],.int .i64 er]) ?_ rfl ?_
  ·simp [results,Tryz.results65,go_sem,h9]
  ·exact ⟨_,_,rfl,.inr ⟨_,_,rfl⟩,k,HA.out⟩
set_option maxRecDepth 100000 in
set_option maxHeartbeats 1000000 in
theorem read_k2 (name s:ByteArray) (h0:isP0 name = false) (h1:isP1 name = false) (h2:isP2 name = true) (w:World) (A:Nat → World → Value → Int → Prop) (hA:Told A) (c:∀ w',Below w.heap.size w w' → Calls Tryz.prog 107 #[.string s] w' fun e w''=>∃ v er,e = .returned (.tuple #[.agg #[v],.int .i64 er]) ∧ IsI v ∧ Below w'.heap.size w' w'' ∧ A w'.heap.size w'' v er) :
  Calls Tryz.prog 65 #[.string name,.string s] w fun e w'=>∃ v er,e = .returned (.tuple #[.agg #[v],.int .i64 er]) ∧ IsI v ∧ Below w.heap.size w w' ∧ A w.heap.size w' v er:=by
 have hb0:=Blk.Is.new w 97 #[.nilIface]
 have hB0:Below w.heap.size w (w.alloc (.cells #[.nilIface] 97)):=(Below.refl _ _).alloc (Nat.le_refl _) _
 have hs0:(w.alloc (.cells #[.nilIface] 97)).heap.size = w.heap.size + 1:=by simp
 have C:=Lib.hid c
 clear c
 have c0:=isAny0 name (w.alloc (.cells #[.nilIface] 97))
 rw [h0,hs0] at c0
 have c1:=fun w=>isAny1 name w
 rw [h1] at c1
 have c2:=fun w=>isAny2 name w
 rw [h2] at c2
 go_enter Tryz.func65,Tryz.ntmps65
 go_wp2_with fail
 refine c0.mono ?_
 rintro e w1 ⟨rfl,k1⟩
 have hb1:Blk.Is w1 w.heap.size 97 #[.nilIface]:=(k1.block _ (by omega)).trans hb0
 have hB1:=hB0.trans (k1.mono (by omega))
 have hs1:w.heap.size + 1 ≤ w1.heap.size:=hs0 ▸ k1.size
 clear hb0 hB0 hs0 k1 c0
 go_wp2_with fail
 refine (c1 _).mono ?_
 rintro e w2 ⟨rfl,k2⟩
 have hb2:Blk.Is w2 w.heap.size 97 #[.nilIface]:=(k2.block _ hb1.lt).trans hb1
 have hB2:=hB1.trans (k2.mono hB1.size)
 have hs2:w.heap.size + 1 ≤ w2.heap.size:=Nat.le_trans hs1 k2.size
 clear hb1 hB1 hs1 k2 c1
 go_wp2_with fail
 refine (c2 _).mono ?_
 rintro e w3 ⟨rfl,k3⟩
 have hb3:Blk.Is w3 w.heap.size 97 #[.nilIface]:=(k3.block _ hb2.lt).trans hb2
 have hB3:=hB2.trans (k3.mono hB2.size)
 have hs3:w.heap.size + 1 ≤ w3.heap.size:=Nat.le_trans hs2 k3.size
 clear hb2 hB2 hs2 k3 c2
 go_wp2_with fail
 refine (C.out _ hB3).mono ?_
 rintro e W ⟨v,er,rfl,hv,kb,ha⟩
 have hi:Blk.Is W w.heap.size 97 #[.nilIface]:=(kb.block _ hb3.lt).trans hb3
 have hc:=hi.at (i:=0) rfl
 have hf:=hi.free 0
 have h9:=(hi.set 0 v).at (i:=0) (v:=v) rfl
 have k:Below w.heap.size w (W.setCell ⟨w.heap.size,0,none⟩ v):=(hB3.trans (kb.mono hB3.size)).setCell (Nat.le_refl _) _
 have HA:=Lib.hid (hA.mono _ w.heap.size _ _ _ (by omega) (hA.on _ _ (W.setCell ⟨w.heap.size,0,none⟩ v) _ _ ha ((Blk.Chg.refl _ W).setAt (b:=w.heap.size) (o:=0) (u:=v) (Nat.lt_of_lt_of_le (Nat.lt_succ_self _) hs3))))
 clear kb hB3 hb3 hs3 hi ha C
 rcases hv with rfl | ⟨t,x,rfl⟩
 ·go_wp2_with fail
  refine bodyPost_ret (v:=.tuple #[.agg #[.nilIface],.int .i64 er]) ?_ rfl ?_
  ·simp [results,Tryz.results65,go_sem,h9]
  ·exact ⟨_,_,rfl,.inl rfl,k,HA.out⟩
 ·go_wp2_with fail
  refine bodyPost_ret (v:=.tuple #[.agg #[.iface t x],.int .i64 er]) ?_ rfl ?_
  ·simp [results,Tryz.results65,go_sem,h9]
  ·exact ⟨_,_,rfl,.inr ⟨_,_,rfl⟩,k,HA.out⟩
set_option maxRecDepth 100000 in
set_option maxHeartbeats 1000000 in
theorem read_k3 (name s:ByteArray) (h0:isP0 name = false) (h1:isP1 name = false) (h2:isP2 name = false) (h3:isP3 name = true) (w:World) (A:Nat → World → Value → Int → Prop) (hA:Told A) (c:∀ w',Below w.heap.size w w' → Calls Tryz.prog 108 #[.string s] w' fun e w''=>∃ v er,e = .returned (.tuple #[.agg #[v],.int .i64 er]) ∧ IsI v ∧ Below w'.heap.size w' w'' ∧ A w'.heap.size w'' v er) :
  Calls Tryz.prog 65 #[.string name,.string s] w fun e w'=>∃ v er,e = .returned (.tuple #[.agg #[v],.int .i64 er]) ∧ IsI v ∧ Below w.heap.size w w' ∧ A w.heap.size w' v er:=by
 have hb0:=Blk.Is.new w 97 #[.nilIface]
 have hB0:Below w.heap.size w (w.alloc (.cells #[.nilIface] 97)):=(Below.refl _ _).alloc (Nat.le_refl _) _
 have hs0:(w.alloc (.cells #[.nilIface] 97)).heap.size = w.heap.size + 1:=by simp
 have C:=Lib.hid c
 clear c
 have c0:=isAny0 name (w.alloc (.cells #[.nilIface] 97))
 rw [h0,hs0] at c0
 have c1:=fun w=>isAny1 name w
 rw [h1] at c1
 have c2:=fun w=>isAny2 name w
 rw [h2] at c2
 have c3:=fun w=>isAny3 name w
 rw [h3] at c3
 go_enter Tryz.func65,Tryz.ntmps65
 go_wp2_with fail
 refine c0.mono ?_
 rintro e w1 ⟨rfl,k1⟩
 have hb1:Blk.Is w1 w.heap.size 97 #[.nilIface]:=(k1.block _ (by omega)).trans hb0
 have hB1:=hB0.trans (k1.mono (by omega))
 have hs1:w.heap.size + 1 ≤ w1.heap.size:=hs0 ▸ k1.size
 clear hb0 hB0 hs0 k1 c0
 go_wp2_with fail
 refine (c1 _).mono ?_
 rintro e w2 ⟨rfl,k2⟩
 have hb2:Blk.Is w2 w.heap.size 97 #[.nilIface]:=(k2.block _ hb1.lt).trans hb1
 have hB2:=hB1.trans (k2.mono hB1.size)
 have hs2:w.heap.size + 1 ≤ w2.heap.size:=Nat.le_trans hs1 k2.size
 clear hb1 hB1 hs1 k2 c1
 go_wp2_with fail
 refine (c2 _).mono ?_
 rintro e w3 ⟨rfl,k3⟩
 have hb3:Blk.Is w3 w.heap.size 97 #[.nilIface]:=(k3.block _ hb2.lt).trans hb2
 have hB3:=hB2.trans (k3.mono hB2.size)
 have hs3:w.heap.size + 1 ≤ w3.heap.size:=Nat.le_trans hs2 k3.size
 clear hb2 hB2 hs2 k3 c2
 go_wp2_with fail
 refine (c3 _).mono ?_
 rintro e w4 ⟨rfl,k4⟩
 have hb4:Blk.Is w4 w.heap.size 97 #[.nilIface]:=(k4.block _ hb3.lt).trans hb3
 have hB4:=hB3.trans (k4.mono hB3.size)
 have hs4:w.heap.size + 1 ≤ w4.heap.size:=Nat.le_trans hs3 k4.size
 clear hb3 hB3 hs3 k4 c3
 go_wp2_with fail
 refine (C.out _ hB4).mono ?_
 rintro e W ⟨v,er,rfl,hv,kb,ha⟩
 have hi:Blk.Is W w.heap.size 97 #[.nilIface]:=(kb.block _ hb4.lt).trans hb4
 have hc:=hi.at (i:=0) rfl
 have hf:=hi.free 0
 have h9:=(hi.set 0 v).at (i:=0) (v:=v) rfl
 have k:Below w.heap.size w (W.setCell ⟨w.heap.size,0,none⟩ v):=(hB4.trans (kb.mono hB4.size)).setCell (Nat.le_refl _) _
 have HA:=Lib.hid (hA.mono _ w.heap.size _ _ _ (by omega) (hA.on _ _ (W.setCell ⟨w.heap.size,0,none⟩ v) _ _ ha ((Blk.Chg.refl _ W).setAt (b:=w.heap.size) (o:=0) (u:=v) (Nat.lt_of_lt_of_le (Nat.lt_succ_self _) hs4))))
 clear kb hB4 hb4 hs4 hi ha C
 rcases hv with rfl | ⟨t,x,rfl⟩
 ·go_wp2_with fail
  refine bodyPost_ret (v:=.tuple #[.agg #[.nilIface],.int .i64 er]) ?_ rfl ?_
  ·simp [results,Tryz.results65,go_sem,h9]
  ·exact ⟨_,_,rfl,.inl rfl,k,HA.out⟩
 ·go_wp2_with fail
  refine bodyPost_ret (v:=.tuple #[.agg #[.iface t x],.int .i64 er]) ?_ rfl ?_
  ·simp [results,Tryz.results65,go_sem,h9]
  ·exact ⟨_,_,rfl,.inr ⟨_,_,rfl⟩,k,HA.out⟩
set_option maxRecDepth 100000 in
set_option maxHeartbeats 1000000 in
theorem read_k4 (name s:ByteArray) (h0:isP0 name = false) (h1:isP1 name = false) (h2:isP2 name = false) (h3:isP3 name = false) (h4:isP4 name = true) (w:World) (A:Nat → World → Value → Int → Prop) (hA:Told A) (c:∀ w',Below w.heap.size w w' → Calls Tryz.prog 109 #[.string s] w' fun e w''=>∃ v er,e = .returned (.tuple #[.agg #[v],.int .i64 er]) ∧ IsI v ∧ Below w'.heap.size w' w'' ∧ A w'.heap.size w'' v er) :
  Calls Tryz.prog 65 #[.string name,.string s] w fun e w'=>∃ v er,e = .returned (.tuple #[.agg #[v],.int .i64 er]) ∧ IsI v ∧ Below w.heap.size w w' ∧ A w.heap.size w' v er:=by
 have hb0:=Blk.Is.new w 97 #[.nilIface]
 have hB0:Below w.heap.size w (w.alloc (.cells #[.nilIface] 97)):=(Below.refl _ _).alloc (Nat.le_refl _) _
 have hs0:(w.alloc (.cells #[.nilIface] 97)).heap.size = w.heap.size + 1:=by simp
 have C:=Lib.hid c
 clear c
 have c0:=isAny0 name (w.alloc (.cells #[.nilIface] 97))
 rw [h0,hs0] at c0
 have c1:=fun w=>isAny1 name w
 rw [h1] at c1
 have c2:=fun w=>isAny2 name w
 rw [h2] at c2
 have c3:=fun w=>isAny3 name w
 rw [h3] at c3
 have c4:=fun w=>isAny4 name w
 rw [h4] at c4
 go_enter Tryz.func65,Tryz.ntmps65
 go_wp2_with fail
 refine c0.mono ?_
 rintro e w1 ⟨rfl,k1⟩
 have hb1:Blk.Is w1 w.heap.size 97 #[.nilIface]:=(k1.block _ (by omega)).trans hb0
 have hB1:=hB0.trans (k1.mono (by omega))
 have hs1:w.heap.size + 1 ≤ w1.heap.size:=hs0 ▸ k1.size
 clear hb0 hB0 hs0 k1 c0
 go_wp2_with fail
 refine (c1 _).mono ?_
 rintro e w2 ⟨rfl,k2⟩
 have hb2:Blk.Is w2 w.heap.size 97 #[.nilIface]:=(k2.block _ hb1.lt).trans hb1
 have hB2:=hB1.trans (k2.mono hB1.size)
 have hs2:w.heap.size + 1 ≤ w2.heap.size:=Nat.le_trans hs1 k2.size
 clear hb1 hB1 hs1 k2 c1
 go_wp2_with fail
 refine (c2 _).mono ?_
 rintro e w3 ⟨rfl,k3⟩
 have hb3:Blk.Is w3 w.heap.size 97 #[.nilIface]:=(k3.block _ hb2.lt).trans hb2
 have hB3:=hB2.trans (k3.mono hB2.size)
 have hs3:w.heap.size + 1 ≤ w3.heap.size:=Nat.le_trans hs2 k3.size
 clear hb2 hB2 hs2 k3 c2
 go_wp2_with fail
 refine (c3 _).mono ?_
 rintro e w4 ⟨rfl,k4⟩
 have hb4:Blk.Is w4 w.heap.size 97 #[.nilIface]:=(k4.block _ hb3.lt).trans hb3
 have hB4:=hB3.trans (k4.mono hB3.size)
 have hs4:w.heap.size + 1 ≤ w4.heap.size:=Nat.le_trans hs3 k4.size
 clear hb3 hB3 hs3 k4 c3
 go_wp2_with fail
 refine (c4 _).mono ?_
 rintro e w5 ⟨rfl,k5⟩
 have hb5:Blk.Is w5 w.heap.size 97 #[.nilIface]:=(k5.block _ hb4.lt).trans hb4
 have hB5:=hB4.trans (k5.mono hB4.size)
 have hs5:w.heap.size + 1 ≤ w5.heap.size:=Nat.le_trans hs4 k5.size
 clear hb4 hB4 hs4 k5 c4
 go_wp2_with fail
 refine (C.out _ hB5).mono ?_
 rintro e W ⟨v,er,rfl,hv,kb,ha⟩
 have hi:Blk.Is W w.heap.size 97 #[.nilIface]:=(kb.block _ hb5.lt).trans hb5
 have hc:=hi.at (i:=0) rfl
 have hf:=hi.free 0
 have h9:=(hi.set 0 v).at (i:=0) (v:=v) rfl
 have k:Below w.heap.size w (W.setCell ⟨w.heap.size,0,none⟩ v):=(hB5.trans (kb.mono hB5.size)).setCell (Nat.le_refl _) _
 have HA:=Lib.hid (hA.mono _ w.heap.size _ _ _ (by omega) (hA.on _ _ (W.setCell ⟨w.heap.size,0,none⟩ v) _ _ ha ((Blk.Chg.refl _ W).setAt (b:=w.heap.size) (o:=0) (u:=v) (Nat.lt_of_lt_of_le (Nat.lt_succ_self _) hs5))))
 clear kb hB5 hb5 hs5 hi ha C
 rcases hv with rfl | ⟨t,x,rfl⟩
 ·go_wp2_with fail
  refine bodyPost_ret (v:=.tuple #[.agg #[.nilIface],.int .i64 er]) ?_ rfl ?_
  ·simp [results,Tryz.results65,go_sem,h9]
  ·exact ⟨_,_,rfl,.inl rfl,k,HA.out⟩
 ·go_wp2_with fail
  refine bodyPost_ret (v:=.tuple #[.agg #[.iface t x],.int .i64 er]) ?_ rfl ?_
  ·simp [results,Tryz.results65,go_sem,h9]
  ·exact ⟨_,_,rfl,.inr ⟨_,_,rfl⟩,k,HA.out⟩
set_option maxRecDepth 100000 in
set_option maxHeartbeats 1000000 in
theorem read_k5 (name s:ByteArray) (h0:isP0 name = false) (h1:isP1 name = false) (h2:isP2 name = false) (h3:isP3 name = false) (h4:isP4 name = false) (h5:isP5 name = true) (w:World) (A:Nat → World → Value → Int → Prop) (hA:Told A) (c:∀ w',Below w.heap.size w w' → Calls Tryz.prog 110 #[.string s] w' fun e w''=>∃ v er,e = .returned (.tuple #[.agg #[v],.int .i64 er]) ∧ IsI v ∧ Below w'.heap.size w' w'' ∧ A w'.heap.size w'' v er) :
  Calls Tryz.prog 65 #[.string name,.string s] w fun e w'=>∃ v er,e = .returned (.tuple #[.agg #[v],.int .i64 er]) ∧ IsI v ∧ Below w.heap.size w w' ∧ A w.heap.size w' v er:=by
 have hb0:=Blk.Is.new w 97 #[.nilIface]
 have hB0:Below w.heap.size w (w.alloc (.cells #[.nilIface] 97)):=(Below.refl _ _).alloc (Nat.le_refl _) _
 have hs0:(w.alloc (.cells #[.nilIface] 97)).heap.size = w.heap.size + 1:=by simp
 have C:=Lib.hid c
 clear c
 have c0:=isAny0 name (w.alloc (.cells #[.nilIface] 97))
 rw [h0,hs0] at c0
 have c1:=fun w=>isAny1 name w
 rw [h1] at c1
 have c2:=fun w=>isAny2 name w
 rw [h2] at c2
 have c3:=fun w=>isAny3 name w
 rw [h3] at c3
 have c4:=fun w=>isAny4 name w
 rw [h4] at c4
 have c5:=fun w=>isAny5 name w
 rw [h5] at c5
 go_enter Tryz.func65,Tryz.ntmps65
 go_wp2_with fail
 refine c0.mono ?_
 rintro e w1 ⟨rfl,k1⟩
 have hb1:Blk.Is w1 w.heap.size 97 #[.nilIface]:=(k1.block _ (by omega)).trans hb0
 have hB1:=hB0.trans (k1.mono (by omega))
 have hs1:w.heap.size + 1 ≤ w1.heap.size:=hs0 ▸ k1.size
 clear hb0 hB0 hs0 k1 c0
 go_wp2_with fail
 refine (c1 _).mono ?_
 rintro e w2 ⟨rfl,k2⟩
 have hb2:Blk.Is w2 w.heap.size 97 #[.nilIface]:=(k2.block _ hb1.lt).trans hb1
 have hB2:=hB1.trans (k2.mono hB1.size)
 have hs2:w.heap.size + 1 ≤ w2.heap.size:=Nat.le_trans hs1 k2.size
 clear hb1 hB1 hs1 k2 c1
 go_wp2_with fail
 refine (c2 _).mono ?_
 rintro e w3 ⟨rfl,k3⟩
 have hb3:Blk.Is w3 w.heap.size 97 #[.nilIface]:=(k3.block _ hb2.lt).trans hb2
 have hB3:=hB2.trans (k3.mono hB2.size)
 have hs3:w.heap.size + 1 ≤ w3.heap.size:=Nat.le_trans hs2 k3.size
 clear hb2 hB2 hs2 k3 c2
 go_wp2_with fail
 refine (c3 _).mono ?_
 rintro e w4 ⟨rfl,k4⟩
 have hb4:Blk.Is w4 w.heap.size 97 #[.nilIface]:=(k4.block _ hb3.lt).trans hb3
 have hB4:=hB3.trans (k4.mono hB3.size)
 have hs4:w.heap.size + 1 ≤ w4.heap.size:=Nat.le_trans hs3 k4.size
 clear hb3 hB3 hs3 k4 c3
 go_wp2_with fail
 refine (c4 _).mono ?_
 rintro e w5 ⟨rfl,k5⟩
 have hb5:Blk.Is w5 w.heap.size 97 #[.nilIface]:=(k5.block _ hb4.lt).trans hb4
 have hB5:=hB4.trans (k5.mono hB4.size)
 have hs5:w.heap.size + 1 ≤ w5.heap.size:=Nat.le_trans hs4 k5.size
 clear hb4 hB4 hs4 k5 c4
 go_wp2_with fail
 refine (c5 _).mono ?_
 rintro e w6 ⟨rfl,k6⟩
 have hb6:Blk.Is w6 w.heap.size 97 #[.nilIface]:=(k6.block _ hb5.lt).trans hb5
 have hB6:=hB5.trans (k6.mono hB5.size)
 have hs6:w.heap.size + 1 ≤ w6.heap.size:=Nat.le_trans hs5 k6.size
 clear hb5 hB5 hs5 k6 c5
 go_wp2_with fail
 refine (C.out _ hB6).mono ?_
 rintro e W ⟨v,er,rfl,hv,kb,ha⟩
 have hi:Blk.Is W w.heap.size 97 #[.nilIface]:=(kb.block _ hb6.lt).trans hb6
 have hc:=hi.at (i:=0) rfl
 have hf:=hi.free 0
 have h9:=(hi.set 0 v).at (i:=0) (v:=v) rfl
 have k:Below w.heap.size w (W.setCell ⟨w.heap.size,0,none⟩ v):=(hB6.trans (kb.mono hB6.size)).setCell (Nat.le_refl _) _
 have HA:=Lib.hid (hA.mono _ w.heap.size _ _ _ (by omega) (hA.on _ _ (W.setCell ⟨w.heap.size,0,none⟩ v) _ _ ha ((Blk.Chg.refl _ W).setAt (b:=w.heap.size) (o:=0) (u:=v) (Nat.lt_of_lt_of_le (Nat.lt_succ_self _) hs6))))
 clear kb hB6 hb6 hs6 hi ha C
 rcases hv with rfl | ⟨t,x,rfl⟩
 ·go_wp2_with fail
  refine bodyPost_ret (v:=.tuple #[.agg #[.nilIface],.int .i64 er]) ?_ rfl ?_
  ·simp [results,Tryz.results65,go_sem,h9]
  ·exact ⟨_,_,rfl,.inl rfl,k,HA.out⟩
 ·go_wp2_with fail
  refine bodyPost_ret (v:=.tuple #[.agg #[.iface t x],.int .i64 er]) ?_ rfl ?_
  ·simp [results,Tryz.results65,go_sem,h9]
  ·exact ⟨_,_,rfl,.inr ⟨_,_,rfl⟩,k,HA.out⟩
set_option maxRecDepth 100000 in
set_option maxHeartbeats 1000000 in
theorem read_k6 (name s:ByteArray) (h0:isP0 name = false) (h1:isP1 name = false) (h2:isP2 name = false) (h3:isP3 name = false) (h4:isP4 name = false) (h5:isP5 name = false) (h6:isP6 name = true) (w:World) (A:Nat → World → Value → Int → Prop) (hA:Told A) (c:∀ w',Below w.heap.size w w' → Calls Tryz.prog 111 #[.string s] w' fun e w''=>∃ v er,e = .returned (.tuple #[.agg #[v],.int .i64 er]) ∧ IsI v ∧ Below w'.heap.size w' w'' ∧ A w'.heap.size w'' v er) :
  Calls Tryz.prog 65 #[.string name,.string s] w fun e w'=>∃ v er,e = .returned (.tuple #[.agg #[v],.int .i64 er]) ∧ IsI v ∧ Below w.heap.size w w' ∧ A w.heap.size w' v er:=by
 have hb0:=Blk.Is.new w 97 #[.nilIface]
 have hB0:Below w.heap.size w (w.alloc (.cells #[.nilIface] 97)):=(Below.refl _ _).alloc (Nat.le_refl _) _
 have hs0:(w.alloc (.cells #[.nilIface] 97)).heap.size = w.heap.size + 1:=by simp
 have C:=Lib.hid c
 clear c
 have c0:=isAny0 name (w.alloc (.cells #[.nilIface] 97))
 rw [h0,hs0] at c0
 have c1:=fun w=>isAny1 name w
 rw [h1] at c1
 have c2:=fun w=>isAny2 name w
 rw [h2] at c2
 have c3:=fun w=>isAny3 name w
 rw [h3] at c3
 have c4:=fun w=>isAny4 name w
 rw [h4] at c4
 have c5:=fun w=>isAny5 name w
 rw [h5] at c5
 have c6:=fun w=>isAny6 name w
 rw [h6] at c6
 go_enter Tryz.func65,Tryz.ntmps65
 go_wp2_with fail
 refine c0.mono ?_
 rintro e w1 ⟨rfl,k1⟩
 have hb1:Blk.Is w1 w.heap.size 97 #[.nilIface]:=(k1.block _ (by omega)).trans hb0
 have hB1:=hB0.trans (k1.mono (by omega))
 have hs1:w.heap.size + 1 ≤ w1.heap.size:=hs0 ▸ k1.size
 clear hb0 hB0 hs0 k1 c0
 go_wp2_with fail
 refine (c1 _).mono ?_
 rintro e w2 ⟨rfl,k2⟩
 have hb2:Blk.Is w2 w.heap.size 97 #[.nilIface]:=(k2.block _ hb1.lt).trans hb1
 have hB2:=hB1.trans (k2.mono hB1.size)
 have hs2:w.heap.size + 1 ≤ w2.heap.size:=Nat.le_trans hs1 k2.size
 clear hb1 hB1 hs1 k2 c1
 go_wp2_with fail
 refine (c2 _).mono ?_
 rintro e w3 ⟨rfl,k3⟩
 have hb3:Blk.Is w3 w.heap.size 97 #[.nilIface]:=(k3.block _ hb2.lt).trans hb2
 have hB3:=hB2.trans (k3.mono hB2.size)
 have hs3:w.heap.size + 1 ≤ w3.heap.size:=Nat.le_trans hs2 k3.size
 clear hb2 hB2 hs2 k3 c2
 go_wp2_with fail
 refine (c3 _).mono ?_
 rintro e w4 ⟨rfl,k4⟩
 have hb4:Blk.Is w4 w.heap.size 97 #[.nilIface]:=(k4.block _ hb3.lt).trans hb3
 have hB4:=hB3.trans (k4.mono hB3.size)
 have hs4:w.heap.size + 1 ≤ w4.heap.size:=Nat.le_trans hs3 k4.size
 clear hb3 hB3 hs3 k4 c3
 go_wp2_with fail
 refine (c4 _).mono ?_
 rintro e w5 ⟨rfl,k5⟩
 have hb5:Blk.Is w5 w.heap.size 97 #[.nilIface]:=(k5.block _ hb4.lt).trans hb4
 have hB5:=hB4.trans (k5.mono hB4.size)
 have hs5:w.heap.size + 1 ≤ w5.heap.size:=Nat.le_trans hs4 k5.size
 clear hb4 hB4 hs4 k5 c4
 go_wp2_with fail
 refine (c5 _).mono ?_
 rintro e w6 ⟨rfl,k6⟩
 have hb6:Blk.Is w6 w.heap.size 97 #[.nilIface]:=(k6.block _ hb5.lt).trans hb5
 have hB6:=hB5.trans (k6.mono hB5.size)
 have hs6:w.heap.size + 1 ≤ w6.heap.size:=Nat.le_trans hs5 k6.size
 clear hb5 hB5 hs5 k6 c5
 go_wp2_with fail
 refine (c6 _).mono ?_
 rintro e w7 ⟨rfl,k7⟩
 have hb7:Blk.Is w7 w.heap.size 97 #[.nilIface]:=(k7.block _ hb6.lt).trans hb6
 have hB7:=hB6.trans (k7.mono hB6.size)
 have hs7:w.heap.size + 1 ≤ w7.heap.size:=Nat.le_trans hs6 k7.size
 clear hb6 hB6 hs6 k7 c6
 go_wp2_with fail
 refine (C.out _ hB7).mono ?_
 rintro e W ⟨v,er,rfl,hv,kb,ha⟩
 have hi:Blk.Is W w.heap.size 97 #[.nilIface]:=(kb.block _ hb7.lt).trans hb7
 have hc:=hi.at (i:=0) rfl
 have hf:=hi.free 0
 have h9:=(hi.set 0 v).at (i:=0) (v:=v) rfl
 have k:Below w.heap.size w (W.setCell ⟨w.heap.size,0,none⟩ v):=(hB7.trans (kb.mono hB7.size)).setCell (Nat.le_refl _) _
 have HA:=Lib.hid (hA.mono _ w.heap.size _ _ _ (by omega) (hA.on _ _ (W.setCell ⟨w.heap.size,0,none⟩ v) _ _ ha ((Blk.Chg.refl _ W).setAt (b:=w.heap.size) (o:=0) (u:=v) (Nat.lt_of_lt_of_le (Nat.lt_succ_self _) hs7))))
 clear kb hB7 hb7 hs7 hi ha C
 rcases hv with rfl | ⟨t,x,rfl⟩
 ·go_wp2_with fail
  refine bodyPost_ret (v:=.tuple #[.agg #[.nilIface],.int .i64 er]) ?_ rfl ?_
  ·simp [results,Tryz.results65,go_sem,h9]
  ·exact ⟨_,_,rfl,.inl rfl,k,HA.out⟩
 ·go_wp2_with fail
  refine bodyPost_ret (v:=.tuple #[.agg #[.iface t x],.int .i64 er]) ?_ rfl ?_
  ·simp [results,Tryz.results65,go_sem,h9]
  ·exact ⟨_,_,rfl,.inr ⟨_,_,rfl⟩,k,HA.out⟩
set_option maxRecDepth 100000 in
set_option maxHeartbeats 1000000 in
theorem read_k7 (name s:ByteArray) (h0:isP0 name = false) (h1:isP1 name = false) (h2:isP2 name = false) (h3:isP3 name = false) (h4:isP4 name = false) (h5:isP5 name = false) (h6:isP6 name = false) (w:World) (A:Nat → World → Value → Int → Prop) (hA:Told A) (c:∀ w',A w'.heap.size w' (.iface 9 (.string s)) 0) :
  Calls Tryz.prog 65 #[.string name,.string s] w fun e w'=>∃ v er,e = .returned (.tuple #[.agg #[v],.int .i64 er]) ∧ IsI v ∧ Below w.heap.size w w' ∧ A w.heap.size w' v er:=by
 have hb0:=Blk.Is.new w 97 #[.nilIface]
 have hB0:Below w.heap.size w (w.alloc (.cells #[.nilIface] 97)):=(Below.refl _ _).alloc (Nat.le_refl _) _
 have hs0:(w.alloc (.cells #[.nilIface] 97)).heap.size = w.heap.size + 1:=by simp
 have C:=Lib.hid c
 clear c
 have c0:=isAny0 name (w.alloc (.cells #[.nilIface] 97))
 rw [h0,hs0] at c0
 have c1:=fun w=>isAny1 name w
 rw [h1] at c1
 have c2:=fun w=>isAny2 name w
 rw [h2] at c2
 have c3:=fun w=>isAny3 name w
 rw [h3] at c3
 have c4:=fun w=>isAny4 name w
 rw [h4] at c4
 have c5:=fun w=>isAny5 name w
 rw [h5] at c5
 have c6:=fun w=>isAny6 name w
 rw [h6] at c6
 go_enter Tryz.func65,Tryz.ntmps65
 go_wp2_with fail
 refine c0.mono ?_
 rintro e w1 ⟨rfl,k1⟩
 have hb1:Blk.Is w1 w.heap.size 97 #[.nilIface]:=(k1.block _ (by omega)).trans hb0
 have hB1:=hB0.trans (k1.mono (by omega))
 have hs1:w.heap.size + 1 ≤ w1.heap.size:=hs0 ▸ k1.size
 clear hb0 hB0 hs0 k1 c0
 go_wp2_with fail
 refine (c1 _).mono ?_
 rintro e w2 ⟨rfl,k2⟩
 have hb2:Blk.Is w2 w.heap.size 97 #[.nilIface]:=(k2.block _ hb1.lt).trans hb1
 have hB2:=hB1.trans (k2.mono hB1.size)
 have hs2:w.heap.size + 1 ≤ w2.heap.size:=Nat.le_trans hs1 k2.size
 clear hb1 hB1 hs1 k2 c1
 go_wp2_with fail
 refine (c2 _).mono ?_
 rintro e w3 ⟨rfl,k3⟩
 have hb3:Blk.Is w3 w.heap.size 97 #[.nilIface]:=(k3.block _ hb2.lt).trans hb2
 have hB3:=hB2.trans (k3.mono hB2.size)
 have hs3:w.heap.size + 1 ≤ w3.heap.size:=Nat.le_trans hs2 k3.size
 clear hb2 hB2 hs2 k3 c2
 go_wp2_with fail
 refine (c3 _).mono ?_
 rintro e w4 ⟨rfl,k4⟩
 have hb4:Blk.Is w4 w.heap.size 97 #[.nilIface]:=(k4.block _ hb3.lt).trans hb3
 have hB4:=hB3.trans (k4.mono hB3.size)
 have hs4:w.heap.size + 1 ≤ w4.heap.size:=Nat.le_trans hs3 k4.size
 clear hb3 hB3 hs3 k4 c3
 go_wp2_with fail
 refine (c4 _).mono ?_
 rintro e w5 ⟨rfl,k5⟩
 have hb5:Blk.Is w5 w.heap.size 97 #[.nilIface]:=(k5.block _ hb4.lt).trans hb4
 have hB5:=hB4.trans (k5.mono hB4.size)
 have hs5:w.heap.size + 1 ≤ w5.heap.size:=Nat.le_trans hs4 k5.size
 clear hb4 hB4 hs4 k5 c4
 go_wp2_with fail
 refine (c5 _).mono ?_
 rintro e w6 ⟨rfl,k6⟩
 have hb6:Blk.Is w6 w.heap.size 97 #[.nilIface]:=(k6.block _ hb5.lt).trans hb5
 have hB6:=hB5.trans (k6.mono hB5.size)
 have hs6:w.heap.size + 1 ≤ w6.heap.size:=Nat.le_trans hs5 k6.size
 clear hb5 hB5 hs5 k6 c5
 go_wp2_with fail
 refine (c6 _).mono ?_
 rintro e w7 ⟨rfl,k7⟩
 have hb7:Blk.Is w7 w.heap.size 97 #[.nilIface]:=(k7.block _ hb6.lt).trans hb6
 have hB7:=hB6.trans (k7.mono hB6.size)
 have hs7:w.heap.size + 1 ≤ w7.heap.size:=Nat.le_trans hs6 k7.size
 clear hb6 hB6 hs6 k7 c6
 have ct:=ofText_any (.string s) w7
 go_wp2_with fail
 refine ct.mono ?_
 rintro e W ⟨rfl,kb⟩
 have hi:Blk.Is W w.heap.size 97 #[.nilIface]:=(kb.block _ hb7.lt).trans hb7
 have hc:=hi.at (i:=0) rfl
 have hf:=hi.free 0
 have h9:=(hi.set 0 (.iface 9 (.string s))).at (i:=0) (v:=.iface 9 (.string s)) rfl
 have k:Below w.heap.size w (W.setCell ⟨w.heap.size,0,none⟩ (.iface 9 (.string s))):=(hB7.trans (kb.mono hB7.size)).setCell (Nat.le_refl _) _
 have HA:=Lib.hid (hA.mono _ w.heap.size _ _ _ (by simp; have:=kb.size; omega) (C.out (W.setCell ⟨w.heap.size,0,none⟩ (.iface 9 (.string s)))))
 clear kb hB7 hb7 hs7 hi C ct
 go_wp2_with fail
 refine bodyPost_ret (v:=.tuple #[.agg #[.iface 9 (.string s)],.int .i64 0]) ?_ rfl ?_
 ·simp [results,Tryz.results65,go_sem,h9]
 ·exact ⟨_,_,rfl,.inr ⟨_,_,rfl⟩,k,HA.out⟩
end Va
end Go.Proofs.YthmpepnikmdjpaaGreatDoor
namespace Go.Proofs.YthmpepnikmdjpaaGreatDoor
open Go.RowKit
set_option linter.unusedSimpArgs false
set_option linter.unusedVariables false
namespace Va
theorem essential:isP0 ⟨#[69,115,115,101,110,116,105,97,108]⟩ = false ∧ isP1 ⟨#[69,115,115,101,110,116,105,97,108]⟩ = false ∧ isP2 ⟨#[69,115,115,101,110,116,105,97,108]⟩ = false ∧ isP3 ⟨#[69,115,115,101,110,116,105,97,108]⟩ = false ∧ isP4 ⟨#[69,115,115,101,110,116,105,97,108]⟩ = false ∧ isP5 ⟨#[69,115,115,101,110,116,105,97,108]⟩ = true:=by decide +kernel
end Va
end Go.Proofs.YthmpepnikmdjpaaGreatDoor

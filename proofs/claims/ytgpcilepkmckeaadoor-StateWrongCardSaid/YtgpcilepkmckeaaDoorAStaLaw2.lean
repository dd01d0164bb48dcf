/-
The law StateWrong.
-/
import Derived.Test.YtgpcilepkmckeaaDoorAStaAwake
import Derived.Test.YtgpcilepkmckeaaDoorAStaLight
import Derived.Test.YtgpcilepkmckeaaDoorAStaYWrong
namespace Go.Proofs.YtgpcilepkmckeaaDoor
open Go.RowKit
set_option linter.unusedSimpArgs false
set_option linter.unusedVariables false
namespace Sa
open Rl (Vars Slc)
open Rc (Pk En Ens Pks)
theorem vis_of {w:World} {B:Nat} {v:Value} {s:List En} (hF:Few s) (h:w.ownsRow B 43 5 v (Sa.wr s).length (vcells (Sa.wr s))):Vis w v (Sa.wr s) :=
 own_vis h (by have:=wrN_len hF (Nat.le_refl s.length); unfold Sa.wr; omega)
set_option maxRecDepth 100000 in
set_option maxHeartbeats 4000000 in
theorem wrong_walk (v0:Value) (s:List En) (w:World) (h:Ens w v0 s) (hL:LimS s) (hbig:s.length * 184 ≤ 140737488355328) (hv:Vars w) :
  Calls Tryd.prog 3 #[v0] w fun e w'=>e = .returned (.bool true) ∧ Below w.heap.size w w':=by
 have cb:=bare_any v0 s w h hbig
 obtain ⟨sa,cap,rfl⟩:=h.shape
 have H:=Lib.hid h
 have HL:=Lib.hid hL
 have HV:=Lib.hid hv
 generalize s.length = n at *
 clear h hL hv hbig
 go_enter Tryd.func3,Tryd.ntmps3
 go_wp2_with fail
 refine cb.mono ?_
 rintro e w1 ⟨v1,rfl,hp,k1⟩
 have cl:=light_any v1 _ w1 hp
 obtain ⟨pa,pc,rfl⟩:=hp.shape
 obtain ⟨b1,hb1⟩:∃ b,lightB (s.map En.pk) = b:=⟨_,rfl⟩
 rw [hb1] at cl
 have HB1:=Lib.hid hb1
 have K1:=Lib.hid k1
 generalize (s.map En.pk).length = pn at *
 clear cb hp hb1 k1
 go_wp2_with fail
 refine cl.mono ?_
 rintro e w2 ⟨rfl,k2⟩
 have K2:=Lib.hid (K1.out.trans (k2.mono K1.out.size))
 clear cl k2 K1
 cases b1 with
 | false =>
  go_wp2_with fail
  go_ret
  exact ⟨rfl,K2.out⟩
 | true =>
  have hF:=light_few HB1.out
  have HF:=Lib.hid hF
  have cw:=wrong_any _ s w2 (H.out.below K2.out) HL.out (HV.out.on K2.out) hF
  clear hF HB1
  go_wp2_with fail
  refine cw.mono ?_
  rintro e w3 ⟨v3,rfl,o3,k3⟩
  have V3:=Lib.hid (vis_of HF.out o3)
  have K3:=Lib.hid (K2.out.trans (k3.mono K2.out.size))
  have cy:=ywrong_any _ s w3 (H.out.below K3.out) HL.out HF.out
  obtain ⟨ra,rc,rfl,_⟩:=Rl.own_shape o3
  obtain ⟨N,hN⟩:∃ N,(Sa.wr s).length = N:=⟨_,rfl⟩
  rw [hN] at V3
  rw [hN]
  have HN:=Lib.hid hN
  clear cw o3 k3 K2 hN
  go_wp2_with fail
  refine cy.mono ?_
  rintro e w4 ⟨v4,rfl,o4,k4⟩
  have K4:=Lib.hid (K3.out.trans (k4.mono K3.out.size))
  have cs:=sameWrong_yes _ _ _ w4 (V3.out.below k4) (vis_of HF.out o4)
  obtain ⟨rb,rd,rfl,_⟩:=Rl.own_shape o4
  rw [HN.out] at cs ⊢
  clear cy o4 k4 K3
  go_wp2_with fail
  refine cs.mono ?_
  rintro e w5 ⟨rfl,k5⟩
  have K5:=Lib.hid (K4.out.trans (k5.mono K4.out.size))
  have ca:=awake_any w5 (HV.out.on K5.out)
  clear cs k5 K4
  go_wp2_with fail
  refine ca.mono ?_
  rintro e w6 ⟨rfl,k6⟩
  have hb:=K5.out.trans (k6.mono K5.out.size)
  clear ca
  go_wp2_with fail
  go_ret
  exact ⟨rfl,hb⟩
end Sa
end Go.Proofs.YtgpcilepkmckeaaDoor

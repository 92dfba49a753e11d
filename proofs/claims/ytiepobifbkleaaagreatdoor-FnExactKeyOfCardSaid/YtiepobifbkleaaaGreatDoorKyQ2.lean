/- Pure laws on keys: the codings of what is asked. -/
import Derived.Test.YtiepobifbkleaaaGreatDoorKyQ
import Derived.Test.YtiepobifbkleaaaGreatDoorGCa
namespace Go.Proofs.YtiepobifbkleaaaGreatDoor
open Go.RowKit

def keyOf (hs : List Hs) (h : Hd) : Ky × Bool := if askB hs h bGet = true then (⟨routeI hs h.host, h.target, codOfF h.fs⟩, true) else (noKy, false)
theorem acc_eq : bAcc = bAccept := rfl
theorem ky_back : ∀ m : Fin 8, (codParse (codT (m.val : Int))).map maskL = some m.val := by decide +kernel
theorem cod_ask {k : Ky} (tag : ByteArray) (hm : 0 ≤ k.mask ∧ k.mask < 8) : (codOfF (askFs k tag) : Int) = k.mask := by
  obtain ⟨p, hp⟩ := mask_fin hm
  have hb := ky_back p
  obtain ⟨ws, hw, hmk⟩ := Option.map_eq_some_iff.1 hb
  rw [codOf_yes (v := ⟨(codT k.mask).toArray⟩) (ws := ws) (by rw [← acc_eq, all_acc]; rfl) (by rw [hp]; exact hw), hmk, hp]
theorem allTo_more (fs gs : List (ByteArray × ByteArray)) (h : (fs.filter fun f => f.1 = bAccept) = gs.filter fun f => f.1 = bAccept) : codOfF fs = codOfF gs := by
  unfold codOfF
  rw [all_filter, all_filter, h]
theorem cod_front (x y : ByteArray) (fs : List (ByteArray × ByteArray)) (h : x ≠ bAccept) : codOfF ((x, y) :: fs) = codOfF fs := allTo_more _ _ (by simp [h])
theorem cod_back (x y : ByteArray) (fs : List (ByteArray × ByteArray)) (h : x ≠ bAccept) : codOfF (fs ++ [(x, y)]) = codOfF fs := allTo_more _ _ (by simp [h])
end Go.Proofs.YtiepobifbkleaaaGreatDoor

/- What the program's tables give, together. -/
import Derived.Test.YtiepobifbkleaaaGreatDoorGKy
import Derived.Test.YtiepobifbkleaaaGreatDoorNumR
namespace Go.Proofs.YtiepobifbkleaaaGreatDoor
open Go.RowKit

def Env (w : World) : Prop := Cls w ∧ Tab w ∧ Cds w ∧ Errs w
theorem Env.below {w w' : World} (h : Env w) {B : Nat} (hb : Below B w w') (hB : w.heap.size ≤ B) : Env w' :=
  ⟨h.1.below hb hB, h.2.1.below hb hB, h.2.2.1.below hb hB, h.2.2.2.below hb hB⟩
end Go.Proofs.YtiepobifbkleaaaGreatDoor

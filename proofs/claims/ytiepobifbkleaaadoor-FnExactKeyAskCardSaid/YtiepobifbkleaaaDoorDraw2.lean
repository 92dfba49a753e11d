/- Walks: the drawing of texts. -/
import Derived.Test.YtiepobifbkleaaaDoorDraw
namespace Go.Proofs.YtiepobifbkleaaaDoor
open Go.RowKit

def strsOk (cs : Array Value) (K : Nat) : Bool := cs.toList.all fun v => match v with | .string s => decide (s.size ≤ K) | _ => false
theorem strs_at {cs : Array Value} {K r : Nat} (h : strsOk cs K = true) (hr : r < cs.size) : ∃ s : ByteArray, cs[r]? = some (.string s) ∧ s.size ≤ K := by
  unfold strsOk at h
  rw [List.all_eq_true] at h
  have h2 := h cs[r] (by simp)
  rw [Array.getElem?_eq_getElem hr]
  cases hv : cs[r] <;> rw [hv] at h2 <;> simp at h2
  exact ⟨_, rfl, h2⟩
def IntsL (lo hi : Int) : List Value → Prop
  | [] => True
  | v :: l => (∃ x : Int, v = .int .i64 x ∧ lo ≤ x ∧ x ≤ hi) ∧ IntsL lo hi l
theorem ints_at {lo hi : Int} : ∀ {l : List Value} {r : Nat}, IntsL lo hi l → r < l.length → ∃ x : Int, l[r]? = some (.int .i64 x) ∧ lo ≤ x ∧ x ≤ hi
  | [], r, _, h => by simp at h
  | v :: l, 0, h, _ => by obtain ⟨⟨x, rfl, h1, h2⟩, _⟩ := h; exact ⟨x, rfl, h1, h2⟩
  | v :: l, r + 1, h, hr => by simpa using ints_at (l := l) (r := r) h.2 (by simp at hr; omega)
theorem bytes_app (a b : ByteArray) : (a ++ b).size = a.size + b.size := by simp
theorem one_size (c : UInt8) : (ByteArray.mk #[c]).size = 1 := rfl
theorem ext_size (s : ByteArray) (a b : Nat) : (s.extract a b).size = min b s.size - a := by simp

end Go.Proofs.YtiepobifbkleaaaDoor

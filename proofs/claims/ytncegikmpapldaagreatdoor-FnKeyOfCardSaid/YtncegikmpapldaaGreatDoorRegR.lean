/- What the operations of a drawing region leave: literals, numbers, texts, variables; each stays while the reader goes on. -/
import Derived.Test.YtncegikmpapldaaGreatDoorReg
import Derived.Test.YtncegikmpapldaaGreatDoorDraw3
namespace Go.Proofs.YtncegikmpapldaaGreatDoor
open Go.RowKit

/-- What stays while the reader at block g goes on and new blocks come. -/
def Stay (g : Nat) (R : Value → World → Prop) : Prop := ∀ v w w', R v w → w.grownBy w' (some g) → R v w'
def REq (x : Value) : Value → World → Prop := fun v _ => v = x
def RLit (g n : Nat) (cs : Array Value) (T : TypeId) : Value → World → Prop := fun v w => ∃ b, v = .slice (some ⟨b, 0, none⟩) n n ∧ b ≠ g ∧ w.heap[b]? = some (.cells cs T (0, 0))
def RNum (n : Nat) : Value → World → Prop := fun v _ => ∃ r : Nat, v = .int .i64 (r : Int) ∧ r < n
def RCell (g K : Nat) : Value → World → Prop := fun v w => ∃ b r s, v = .pointer (some ⟨b, r, none⟩) ∧ b ≠ g ∧ w.cell? ⟨b, r, none⟩ = some (.string s) ∧ s.size ≤ K
def RStr (K : Nat) : Value → World → Prop := fun v _ => ∃ s : ByteArray, v = .string s ∧ s.size ≤ K
def RVar (g B : Nat) (x y : Value) (T : TypeId) : Value → World → Prop := fun v w => ∃ b, v = .pointer (some ⟨b, 0, none⟩) ∧ g < b ∧ B ≤ b ∧ w.heap[b]? = some (.cells #[x, y] T (0, 0))
def RPair (K : Nat) : Value → World → Prop := fun v _ => ∃ s t : ByteArray, v = .agg #[.string s, .string t] ∧ s.size ≤ K ∧ t.size ≤ K

theorem stay_eq (g : Nat) (x : Value) : Stay g (REq x) := fun _ _ _ h _ => h
theorem stay_num (g n : Nat) : Stay g (RNum n) := fun _ _ _ h _ => h
theorem stay_str (g K : Nat) : Stay g (RStr K) := fun _ _ _ h _ => h
theorem stay_pair (g K : Nat) : Stay g (RPair K) := fun _ _ _ h _ => h
theorem block_keep {w w' : World} {g b : Nat} {o : Obj} (hb : b ≠ g) (h : w.heap[b]? = some o) (hg : w.grownBy w' (some g)) : w'.heap[b]? = some o :=
  (hg.block b (Array.getElem?_eq_some_iff.1 h).1 (fun e => hb (by injection e))).trans h
theorem stay_lit (g n : Nat) (cs : Array Value) (T : TypeId) : Stay g (RLit g n cs T) := fun _ _ _ ⟨b, h1, h2, h3⟩ hg => ⟨b, h1, h2, block_keep h2 h3 hg⟩
theorem stay_cell (g K : Nat) : Stay g (RCell g K) := fun _ _ _ ⟨b, r, s, h1, h2, h3, h4⟩ hg => ⟨b, r, s, h1, h2, hg.cell h3 (fun e => h2 (by injection e)), h4⟩
theorem stay_var (g B : Nat) (x y : Value) (T : TypeId) : Stay g (RVar g B x y T) := fun _ _ _ ⟨b, h1, h2, h3, h4⟩ hg => ⟨b, h1, h2, h3, block_keep (by omega) h4 hg⟩

def RAt (Rs : List (Value → World → Prop)) (i : Nat) : Value → World → Prop := Rs.getD i (fun _ _ => True)
def StayAll (g : Nat) : List (Value → World → Prop) → Prop
  | [] => True
  | r :: rs => Stay g r ∧ StayAll g rs
theorem stay_at {g : Nat} : ∀ {Rs : List (Value → World → Prop)} {i : Nat}, StayAll g Rs → Stay g (RAt Rs i)
  | [], i, _ => fun _ _ _ _ _ => by simp [RAt]
  | r :: rs, 0, h => by simpa [RAt] using h.1
  | r :: rs, i + 1, h => by simpa [RAt] using stay_at (Rs := rs) (i := i) h.2

def depB (ops : Array Oper) (i j : Nat) : Bool := (deps ops i).contains j
theorem dep_of {ops : Array Oper} {i j : Nat} (h : depB ops i j = true) : j ∈ deps ops i := by simpa [depB] using h

/-- A literal's cell at a place. -/
theorem lit_at {w : World} {b r K : Nat} {cs : Array Value} {T : TypeId} (h : w.heap[b]? = some (.cells cs T (0, 0))) (hok : strsOk cs K = true) (hr : r < cs.size) : ∃ s : ByteArray, w.cell? ⟨b, r, none⟩ = some (.string s) ∧ s.size ≤ K := by
  obtain ⟨s, h1, h2⟩ := strs_at hok hr
  exact ⟨s, by rw [cell_of_row w b r cs T (0, 0) h, h1], h2⟩

/-- The world of a region: the reader has gone on. -/
def CAtK (w0 : World) (B g m c : Nat) : Nat → World → Prop := fun k w => Drawn w0 w B g (m + c * k) ∧ g < w0.heap.size
theorem catk_same {w0 w : World} {B g m c k : Nat} (h : CAtK w0 B g m c k w) : CAtK w0 B g m c (k + 1) w := ⟨h.1.mono (by rw [Nat.mul_add]; omega), h.2⟩
theorem catk_alloc {w0 w : World} {B g m c k : Nat} (h : CAtK w0 B g m c k w) (o : Obj) : CAtK w0 B g m c (k + 1) (w.alloc o) := ⟨(h.1.alloc o).mono (by rw [Nat.mul_add]; omega), h.2⟩
theorem catk_drawn {w0 w w' : World} {B g m c k m' : Nat} (h : CAtK w0 B g m c k w) (hd : Drawn w w' B g m') (hm : m' ≤ m + c * (k + 1)) : CAtK w0 B g m c (k + 1) w' := ⟨(h.1.trans hd).mono hm, h.2⟩
theorem catk_lt {w0 w : World} {B g m c k : Nat} (h : CAtK w0 B g m c k w) : g < w.heap.size := h.1.1.lt
end Go.Proofs.YtncegikmpapldaaGreatDoor

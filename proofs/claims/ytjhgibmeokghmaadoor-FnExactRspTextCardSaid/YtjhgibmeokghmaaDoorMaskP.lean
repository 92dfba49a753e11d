/- Sets of codings: plain functions; no program. -/
import Derived.Test.YtjhgibmeokghmaaDoorPure
namespace Go.Proofs.YtjhgibmeokghmaaDoor

abbrev Wt : Type := Int × Int
/-- What is told last for a coding. -/
def lastQ (ws : List Wt) (c : Int) (o : Int) : Int := ws.foldl (fun q w => if w.1 = c then w.2 else q) o
def qual (ws : List Wt) (c : Int) : Int := lastQ ws c (lastQ ws (-1) (if c = 0 then 1000 else 0))
def maskL (ws : List Wt) : Nat := (if 0 < qual ws 0 then 1 else 0) + (if 0 < qual ws 1 then 2 else 0) + (if 0 < qual ws 2 then 4 else 0)
def inB (m c : Int) : Bool := decide (0 ≤ m ∧ m < 8) && ((decide (c = 0) && decide (m % 2 = 1)) || (decide (c = 1) && decide (m / 2 % 2 = 1)) || (decide (c = 2) && decide (m / 4 % 2 = 1)))
theorem lastQ_snoc (ws : List Wt) (w : Wt) (c o : Int) : lastQ (ws ++ [w]) c o = if w.1 = c then w.2 else lastQ ws c o := by
  unfold lastQ; rw [List.foldl_append]; rfl
theorem lastQ_take {ws : List Wt} {k : Nat} {w : Wt} (h : ws[k]? = some w) (c o : Int) : lastQ (ws.take (k + 1)) c o = if w.1 = c then w.2 else lastQ (ws.take k) c o := by
  rw [show ws.take (k + 1) = ws.take k ++ [w] from by rw [List.take_add_one, h]; rfl, lastQ_snoc]
theorem maskL_lt (ws : List Wt) : maskL ws < 8 := by
  unfold maskL; split <;> split <;> split <;> omega
/-- The codings below k that would be taken. -/
def maskTo (ws : List Wt) (k : Nat) : Nat := (if 0 < k ∧ 0 < qual ws 0 then 1 else 0) + (if 1 < k ∧ 0 < qual ws 1 then 2 else 0) + (if 2 < k ∧ 0 < qual ws 2 then 4 else 0)
theorem maskTo_all (ws : List Wt) : maskTo ws 3 = maskL ws := by simp [maskTo, maskL]
theorem maskTo_zero (ws : List Wt) : maskTo ws 0 = 0 := by simp [maskTo]
theorem maskTo_step (ws : List Wt) (k : Nat) (hk : k < 3) : maskTo ws (k + 1) = maskTo ws k + if 0 < qual ws (k : Int) then 2 ^ k else 0 := by
  have h : k = 0 ∨ k = 1 ∨ k = 2 := by omega
  rcases h with rfl | rfl | rfl <;> simp [maskTo]
theorem maskTo_lt (ws : List Wt) (k : Nat) (_hk : k ≤ 3) : maskTo ws k < 2 ^ k := by
  have h : k = 0 ∨ k = 1 ∨ k = 2 ∨ k = 3 := by omega
  rcases h with rfl | rfl | rfl | rfl
  all_goals simp only [maskTo]
  all_goals simp
  all_goals (repeat' split)
  all_goals omega

end Go.Proofs.YtjhgibmeokghmaaDoor

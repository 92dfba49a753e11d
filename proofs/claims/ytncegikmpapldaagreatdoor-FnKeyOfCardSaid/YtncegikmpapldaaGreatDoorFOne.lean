/- Fields: the only value of a name. -/
import Derived.Test.YtncegikmpapldaaGreatDoorVals
namespace Go.Proofs.YtncegikmpapldaaGreatDoor
open Go.RowKit Go.Maps

def oneOf : List ByteArray → ByteArray × Bool
  | [x] => (x, true)
  | _ => (⟨#[]⟩, false)
theorem oneOf_one {l : List ByteArray} (h : l.length = 1) : ∃ x, l = [x] ∧ oneOf l = (x, true) := by
  match l, h with
  | [x], _ => exact ⟨x, rfl, rfl⟩
theorem oneOf_not {l : List ByteArray} (h : l.length ≠ 1) : oneOf l = (⟨#[]⟩, false) := by
  match l with
  | [] => rfl
  | [x] => simp at h
  | _ :: _ :: _ => rfl

theorem own_len {w : World} {B : Nat} {e : TypeId} {v : Value} {n : Nat} {xs : List Value} (h : w.ownsRow B e 1 v n xs) : ∃ a c, v = .slice a n c := by
  rcases h.2 with ⟨h, h0⟩ | ⟨g, cap, cur, h, _⟩
  · exact ⟨none, 0, by rw [h, h0]⟩
  · exact ⟨_, _, h⟩

theorem all_len (fs : List Fd) (s : ByteArray) (k : Nat) : (allTo fs s k).length ≤ k := by
  rw [← idx_vals, List.length_map]; exact idx_len fs s k

set_option maxHeartbeats 400000 in
theorem impl_one (v : Value) (fs : List Fd) (s : ByteArray) (w : World) (hF : FRow w v fs) (hok : FOk fs 281474976710656) (hn : fs.length ≤ 2000000) (hs : s.size ≤ maxLen) :
    Calls Tryz.prog 28 #[v, .string s] w fun e w' => e = .returned (.tuple #[.string (oneOf (allTo fs s fs.length)).1, .bool (oneOf (allTo fs s fs.length)).2]) ∧ Below w.heap.size w w' := by
  have hlen := all_len fs s fs.length
  have HF := Lib.hid hF
  obtain ⟨a, c, rfl, h1, h2, h3⟩ := hF
  clear h3
  go_enter Tryz.func28, Tryz.ntmps28
  go_wp2_with fail
  refine (impl_all _ fs s _ HF.out hok hn hs).mono ?_
  rintro e w1 ⟨u, rfl, ho, hb⟩
  generalize hL : allTo fs s fs.length = L at *
  by_cases hl : L.length = 1
  · obtain ⟨x, rfl, h2⟩ := oneOf_one hl
    have H2 := Lib.hid h2
    have HL := Lib.hid hL
    obtain ⟨g, cap, rfl⟩ := own_form ho (by simp)
    have hc := own_cell ho (j := 0) (u := .string x) (by simp [sV])
    clear ho hl h2 hL
    simp only [List.length_singleton]
    go_wp2
    go_ret2
    rw [HL.out, H2.out]
    exact ⟨rfl, hb⟩
  · obtain ⟨g, cap, rfl⟩ := own_len ho
    have HL := Lib.hid hL
    clear ho hL
    have hl' : ((L.length : Int) != 1) = true := by simp; omega
    go_wp2
    go_ret2
    rw [HL.out, oneOf_not hl]
    exact ⟨rfl, hb⟩

set_option maxHeartbeats 400000 in
theorem spec_one (v : Value) (fs : List Fd) (s : ByteArray) (w : World) (hF : FRow w v fs) (hn : fs.length ≤ 2000000) :
    Calls Tryz.prog 97 #[v, .string s] w fun e w' => e = .returned (.tuple #[.string (oneOf (allTo fs s fs.length)).1, .bool (oneOf (allTo fs s fs.length)).2]) ∧ Below w.heap.size w w' := by
  have hlen := all_len fs s fs.length
  have HF := Lib.hid hF
  obtain ⟨a, c, rfl, h1, h2, h3⟩ := hF
  clear h3
  go_enter Tryz.func97, Tryz.ntmps97
  go_wp2_with fail
  refine (spec_all _ fs s _ HF.out hn).mono ?_
  rintro e w1 ⟨u, rfl, ho, hb⟩
  generalize hL : allTo fs s fs.length = L at *
  by_cases hl : L.length = 1
  · obtain ⟨x, rfl, h2⟩ := oneOf_one hl
    have H2 := Lib.hid h2
    have HL := Lib.hid hL
    obtain ⟨g, cap, rfl⟩ := own_form ho (by simp)
    have hc := own_cell ho (j := 0) (u := .string x) (by simp [sV])
    clear ho hl h2 hL
    simp only [List.length_singleton]
    go_wp2
    go_ret2
    rw [HL.out, H2.out]
    exact ⟨rfl, hb⟩
  · obtain ⟨g, cap, rfl⟩ := own_len ho
    have HL := Lib.hid hL
    clear ho hL
    have hl' : ((L.length : Int) != 1) = true := by simp; omega
    go_wp2
    go_ret2
    rw [HL.out, oneOf_not hl]
    exact ⟨rfl, hb⟩
end Go.Proofs.YtncegikmpapldaaGreatDoor

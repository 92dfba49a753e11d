/- Walks: options of a request that goes on, made. -/
import Derived.Test.YtiepobifbkleaaaGreatDoorGKy
import Derived.Test.YtiepobifbkleaaaGreatDoorKyQ
import Derived.Laws.EntriesVeiled
namespace Go.Proofs.YtiepobifbkleaaaGreatDoor
open Go.RowKit Go.Maps

/-- A request as a result, its fields in a row of its own. -/
def HRet (B : Nat) (q : Hd) (e : Ending) (w' : World) : Prop := ∃ vr, e = .returned (headV q vr) ∧ w'.ownsRow B 50 2 vr q.fs.length (fcells q.fs)

set_option maxHeartbeats 400000 in
theorem with_field (n v : ByteArray) (w : World) :
    Calls Tryz.prog 80 #[.string n, .string v] w fun e w' => e = .returned (.func (.func 140) #[] #[.pointer (some ⟨w.heap.size, 0, none⟩), .pointer (some ⟨w.heap.size + 1, 0, none⟩)]) ∧ w' = (w.alloc (.cells #[.string n] 9)).alloc (.cells #[.string v] 9) := by
  have hmf : ∀ (fn : Fn) (first cap : Array Value) (w : World), (Instr.makeFunc fn first cap).run Tryz.prog w = .ok (.func fn first cap) w := fun _ _ _ _ => rfl
  go_enter Tryz.func80, Tryz.ntmps80
  go_wp2
  go_ret
  exact ⟨rfl, rfl⟩
set_option maxHeartbeats 400000 in
theorem with_body (v : ByteArray) (w : World) :
    Calls Tryz.prog 87 #[.string v] w fun e w' => e = .returned (.func (.func 145) #[] #[.pointer (some ⟨w.heap.size, 0, none⟩)]) ∧ w' = w.alloc (.cells #[.string v] 9) := by
  have hmf : ∀ (fn : Fn) (first cap : Array Value) (w : World), (Instr.makeFunc fn first cap).run Tryz.prog w = .ok (.func fn first cap) w := fun _ _ _ _ => rfl
  go_enter Tryz.func87, Tryz.ntmps87
  go_wp2
  go_ret
  exact ⟨rfl, rfl⟩
theorem infoOpt : (Tryz.prog.info? 110).map (fun i => (i.zero, i.size, i.bytes)) = some (some .nilFunc, 1, 8) := by kernel_rfl

/-- One option in a row by itself. -/
theorem orow_one {w : World} {c : Nat} {y : Value} {T : TypeId} {x : FOpt} (h : w.heap[c]? = some (.cells #[y] T (0, 0))) (ho : optAt w y x) : ORow w (.slice (some ⟨c, 0, none⟩) 1 1) [x] := by
  refine ⟨c, 0, 1, rfl, Nat.le_refl _, by unfold maxLen; omega, (Array.getElem?_eq_some_iff.1 h).1, fun j z hj => ?_⟩
  match j, hj with
  | 0, hj =>
    obtain rfl : x = z := by simpa using hj
    exact ⟨y, by simp [World.cell?, h], ho⟩
  | j + 1, hj => simp at hj
/-- Two options in a row of the call's own. -/
theorem orow_two {w : World} {B : Nat} {T : TypeId} {v y1 y2 : Value} {x1 x2 : FOpt} (h : w.ownsRow B T 1 v 2 [y1, y2]) (h1 : optAt w y1 x1) (h2 : optAt w y2 x2) : ORow w v [x1, x2] := by
  rcases h.2 with ⟨_, h0⟩ | ⟨b, cap, cur, rfl, hb, hh, hn, hm, _, _⟩
  · cases h0
  · refine ⟨b, 0, cap, rfl, hn, hm, (Array.getElem?_eq_some_iff.1 hh).1, fun j z hj => ?_⟩
    match j, hj with
    | 0, hj =>
      obtain rfl : x1 = z := by simpa using hj
      exact ⟨y1, own_cell h (j := 0) rfl, h1⟩
    | 1, hj =>
      obtain rfl : x2 = z := by simpa using hj
      exact ⟨y2, own_cell h (j := 1) rfl, h2⟩
    | j + 2, hj => simp at hj
theorem optAll_ask (v t n : ByteArray) (k : Ky) (tag : ByteArray) (h : tag.data.toList = []) : optAll ⟨v, t, n, [], ⟨#[]⟩⟩ [.field bAcc ⟨(codT k.mask).toArray⟩] = ⟨v, t, n, askFs k tag, ⟨#[]⟩⟩ := by
  simp [optAll, optTo, askFs, h]
theorem optAll_ask2 (v t n : ByteArray) (k : Ky) (tag : ByteArray) (h : ¬ tag.data.toList = []) : optAll ⟨v, t, n, [], ⟨#[]⟩⟩ [.field bAcc ⟨(codT k.mask).toArray⟩, .field bIfNone tag] = ⟨v, t, n, askFs k tag, ⟨#[]⟩⟩ := by
  simp [optAll, optTo, askFs, h]
end Go.Proofs.YtiepobifbkleaaaGreatDoor

/- Places: what a place means, by the machine; the exact law. -/
import Derived.Test.YthmljebpjohibaaDoorMach
namespace Go.Proofs.YthmljebpjohibaaDoor
open Go.RowKit

def MNext (b : Nat) (R : List UInt8) (n : Nat) (l : List UInt8) (w : World) (e : Ending) (w' : World) : Prop :=
  ∃ st ys, MStep b st ys w e w' ∧ Hid (MInv R st ys l) ∧ ys.length ≤ n + 1

theorem m_p (b : Nat) (R ys l : List UInt8) (c : UInt8) (w : World) (h : MAt w b ys) (hn : ys.length ≤ 1048576) (hR : MInv R .p ys (c :: l)) :
    Calls Tryd.prog 39 #[.pointer (some ⟨b, 0, none⟩), .int .u8 c.toNat] w (MNext b R ys.length l w) :=
  (m_plain b ys c w h (by omega)).mono fun e w' hx => ⟨_, _, hx, Lib.hid (minv_plain hR), by simp⟩
theorem m_f (b : Nat) (R ys l : List UInt8) (c : UInt8) (w : World) (h : MAt w b ys) (hn : ys.length ≤ 1048576) (hR : MInv R .f ys (c :: l)) :
    Calls Tryd.prog 54 #[.pointer (some ⟨b, 0, none⟩), .int .u8 c.toNat] w (MNext b R ys.length l w) := by
  obtain ⟨xs, rfl, hR⟩ := hR
  exact (m_first b R xs l c w h (by omega) hR).mono fun e w' ⟨st, hx, hy⟩ => ⟨st, _, hx, Lib.hid hy, by simp⟩
theorem m_s (b : Nat) (R ys l : List UInt8) (c : UInt8) (w : World) (h : MAt w b ys) (hn : ys.length ≤ 1048576) (hR : MInv R .s ys (c :: l)) :
    Calls Tryd.prog 74 #[.pointer (some ⟨b, 0, none⟩), .int .u8 c.toNat] w (MNext b R ys.length l w) := by
  obtain ⟨xs, a, x, hx, rfl, hR⟩ := hR
  have hl : (xs ++ [37, a]).length = xs.length + 2 := by simp
  exact (m_second b R xs l a c x hx w h (by omega) hR).mono fun e w' ⟨st, ys, hx, hy, hz⟩ => ⟨st, ys, hx, Lib.hid hy, by omega⟩

theorem step_not_nil (f : Fn) (a c : Array Value) (w : World) : (binOp .eql 45 (.func f a c) .nilFunc).run Tryd.prog w = .ok (.bool false) w := by kernel_rfl
theorem step_nil (w : World) : (binOp .eql 45 .nilFunc .nilFunc).run Tryd.prog w = .ok (.bool true) w := by kernel_rfl

set_option maxHeartbeats 1600000 in
theorem takes_m (b : Nat) (s : ByteArray) (R : List UInt8) (hR : R = meansL s.data.toList) (w : World) (h : MAt w b []) (hs : s.size ≤ 1048576) :
    Calls Tryd.prog 34 #[mV b .p, .string s] w fun e w' => e = .returned (.bool true) ∧ MAt w' b R ∧ Below b w w' := by
  have hq1 := step_not_nil
  have hb0 : b < w.heap.size := by obtain ⟨v, hh, _⟩ := h; exact (Array.getElem?_eq_some_iff.1 hh).1
  go_enter Tryd.func34, Tryd.ntmps34
  go_wp2_with fail
  go_loopw [0, 8] (fun f i wr => ∃ (k : Nat) (st : MS) (ys : List UInt8), k ≤ s.size ∧ i = .int .i64 k ∧ f = mV b st ∧ MAt wr b ys ∧ ys.length ≤ k ∧ Hid (MInv R st ys (s.data.toList.drop k)) ∧ Below b w wr) (fun _ i _ => s.size - (intOf i).toNat)
  case atStart => exact ⟨0, .p, [], Nat.zero_le _, rfl, rfl, h, by simp, Lib.hid hR, Below.refl _ _⟩
  case round =>
    clear hR h
    obtain ⟨k, st, ys, hk, rfl, rfl, hm, hlen, HI, hbel⟩ := hrel
    by_cases hlt : k < s.size
    · rw [drop_at s k hlt] at HI
      cases st
      · have c1 := m_p b R ys _ s[k] wr hm (by omega) HI.out
        generalize hd : s.data.toList.drop (k + 1) = l at c1
        have HD := Lib.hid hd
        clear HI hm hd
        unfold mV
        go_wp2_with fail
        refine c1.mono ?_
        rintro e w1 ⟨st, ys1, ⟨rfl, q1, q2⟩, q3, q4⟩
        clear c1
        have q5 := hbel.trans q2
        cases st
        · unfold mV
          go_wp2
          go_roundw
          case rel => exact ⟨k + 1, .p, ys1, by omega, by go_num, rfl, q1, by omega, by rw [HD.out]; exact q3, q5⟩
          case measure => simp [intOf]; omega
        · unfold mV
          go_wp2
          go_roundw
          case rel => exact ⟨k + 1, .f, ys1, by omega, by go_num, rfl, q1, by omega, by rw [HD.out]; exact q3, q5⟩
          case measure => simp [intOf]; omega
        · unfold mV
          go_wp2
          go_roundw
          case rel => exact ⟨k + 1, .s, ys1, by omega, by go_num, rfl, q1, by omega, by rw [HD.out]; exact q3, q5⟩
          case measure => simp [intOf]; omega
      · have c1 := m_f b R ys _ s[k] wr hm (by omega) HI.out
        generalize hd : s.data.toList.drop (k + 1) = l at c1
        have HD := Lib.hid hd
        clear HI hm hd
        unfold mV
        go_wp2_with fail
        refine c1.mono ?_
        rintro e w1 ⟨st, ys1, ⟨rfl, q1, q2⟩, q3, q4⟩
        clear c1
        have q5 := hbel.trans q2
        cases st
        · unfold mV
          go_wp2
          go_roundw
          case rel => exact ⟨k + 1, .p, ys1, by omega, by go_num, rfl, q1, by omega, by rw [HD.out]; exact q3, q5⟩
          case measure => simp [intOf]; omega
        · unfold mV
          go_wp2
          go_roundw
          case rel => exact ⟨k + 1, .f, ys1, by omega, by go_num, rfl, q1, by omega, by rw [HD.out]; exact q3, q5⟩
          case measure => simp [intOf]; omega
        · unfold mV
          go_wp2
          go_roundw
          case rel => exact ⟨k + 1, .s, ys1, by omega, by go_num, rfl, q1, by omega, by rw [HD.out]; exact q3, q5⟩
          case measure => simp [intOf]; omega
      · have c1 := m_s b R ys _ s[k] wr hm (by omega) HI.out
        generalize hd : s.data.toList.drop (k + 1) = l at c1
        have HD := Lib.hid hd
        clear HI hm hd
        unfold mV
        go_wp2_with fail
        refine c1.mono ?_
        rintro e w1 ⟨st, ys1, ⟨rfl, q1, q2⟩, q3, q4⟩
        clear c1
        have q5 := hbel.trans q2
        cases st
        · unfold mV
          go_wp2
          go_roundw
          case rel => exact ⟨k + 1, .p, ys1, by omega, by go_num, rfl, q1, by omega, by rw [HD.out]; exact q3, q5⟩
          case measure => simp [intOf]; omega
        · unfold mV
          go_wp2
          go_roundw
          case rel => exact ⟨k + 1, .f, ys1, by omega, by go_num, rfl, q1, by omega, by rw [HD.out]; exact q3, q5⟩
          case measure => simp [intOf]; omega
        · unfold mV
          go_wp2
          go_roundw
          case rel => exact ⟨k + 1, .s, ys1, by omega, by go_num, rfl, q1, by omega, by rw [HD.out]; exact q3, q5⟩
          case measure => simp [intOf]; omega
    · go_wp2
      go_ret
      rw [drop_end s k (by omega)] at HI
      have e := minv_end HI.out
      subst e
      exact ⟨rfl, hm, hbel⟩

theorem made_m (w : World) : MAt (w.alloc (.cells #[.slice none 0 0] 52)) w.heap.size [] :=
  ⟨.slice none 0 0, heap_alloc_new w _, World.ownsRow_nil _ _ _ _⟩

set_option maxHeartbeats 800000 in
theorem impl_means (s : ByteArray) (w : World) (hs : s.size ≤ 1048576) :
    Calls Tryd.prog 17 #[.string s] w fun e w' => e = .returned (strV (meansL s.data.toList)) ∧ Below w.heap.size w w' := by
  obtain ⟨R, hR⟩ : ∃ R, R = meansL s.data.toList := ⟨_, rfl⟩
  have hlen : R.length ≤ 1048576 := by have := meansL_len s.data.toList; rw [size_len] at hs; rw [hR]; omega
  rw [← hR]
  have hm := made_m w
  have hbel := (Below.refl w.heap.size w).alloc (Nat.le_refl _) (.cells #[.slice none 0 0] 52)
  have c1 := takes_m w.heap.size s R hR _ hm hs
  have hmf : ∀ (fn : Fn) (first cap : Array Value) (w : World), (Instr.makeFunc fn first cap).run Tryd.prog w = .ok (.func fn first cap) w := fun _ _ _ _ => rfl
  unfold mV at c1
  clear hm hR
  go_enter Tryd.func17, Tryd.ntmps17
  go_wp2_with fail
  refine c1.mono ?_
  rintro e w1 ⟨rfl, ⟨v, hh, hown⟩, hb1⟩
  have hb2 := hbel.trans hb1
  have c0 : w1.cell? ⟨w.heap.size, 0, none⟩ = some v := by simp [World.cell?, hh]
  clear c1 hb1 hbel
  rcases hown.2 with ⟨rfl, h0⟩ | ⟨g, cap, _, rfl, _⟩
  · have e : R = [] := List.eq_nil_of_length_eq_zero h0
    subst e
    have hcn : ∀ W : World, (convert 22 9 (.slice none 0 0)).run Tryd.prog W = .ok (.string ⟨#[]⟩) W := fun W => by rw [run_convert_bytes_string W 22 9 5 none 0 0 Tryd.underlying22 Tryd.underlying5 Tryd.underlying9]; rfl
    go_wp2
    go_ret
    exact ⟨rfl, hb2⟩
  · have hcv := run_convert_bytes_back (P := Tryd.prog) w1 22 9 5 ⟨g, 0, none⟩ cap R Tryd.underlying22 Tryd.underlying5 Tryd.underlying9 (fun j hj => by
      have := hown.cells (g := g) rfl j _ (u8s_at hj)
      rw [this])
    go_wp2
    go_ret
    exact ⟨rfl, hb2⟩

namespace Lw
end Lw
end Go.Proofs.YthmljebpjohibaaDoor

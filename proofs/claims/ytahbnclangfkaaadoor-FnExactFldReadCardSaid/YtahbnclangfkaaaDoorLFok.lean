/- The laws on valid fields, their texts, and what a line says, exact. -/
import Derived.Test.YtahbnclangfkaaaDoorFHelp1
import Derived.Test.YtahbnclangfkaaaDoorFrd
import Derived.Lib.SmallJoins
namespace Go.Proofs.YtahbnclangfkaaaDoor
open Go.RowKit

/-- A field that came in, by value, opened. -/
theorem open_fd {H : Type} {enc : TypeId × Value → H} {W : World} {r : Reach} {b0 base : Nat} {spare : Nat → Bool} {held : Bool} {v : Value} {d : DataW H} {p : List MemPlace} (hv : Value.okWide Tryd.prog W r b0 41 v) (h : DataW.Trod enc Tryd.prog W base spare held 41 v d p) :
    ∃ f : ByteArray × ByteArray, v = .agg #[.string f.1, .string f.2] ∧ f.1.size ≤ maxLen ∧ f.2.size ≤ maxLen := by
  obtain ⟨c0, c1, y0, y1, m, rfl, _, _, hy0, hy1⟩ := Go.Joins.open_agg2 Tryd.underlying41 (by kernel_rfl) (by kernel_rfl) hv h
  obtain ⟨s0, e0, _, z0⟩ := DataW.trod_string Tryd.underlying9 hy0
  obtain ⟨s1, e1, _, z1⟩ := DataW.trod_string Tryd.underlying9 hy1
  simp only [List.cons.injEq, and_true] at e0 e1
  exact ⟨(s0, s1), by rw [e0, e1], z0, z1⟩

set_option maxHeartbeats 800000 in
theorem law_fok (a b : ByteArray) (w : World) (ha : a.size ≤ maxLen) (hb : b.size ≤ maxLen) (h : Cls w) :
    Calls Tryd.prog 6 #[.agg #[.string a, .string b]] w fun e w' => e = .returned (.bool true) ∧ Below w.heap.size w w' := by
  have hsz := fun W => sz_field1 a b W ha hb
  have hto := fun W => to_field1 a b W
  have hS := fun W => spec_ok a b W ha hb
  have hI := fun W hW => impl_ok a b W ha hb hW
  have HA : ∀ o, Below w.heap.size w (w.alloc o) := fun o => (Below.refl _ _).alloc (Nat.le_refl _) o
  have hC : ∀ W, Below w.heap.size w W → Cls W := fun W hW => h.below hW (Nat.le_refl _)
  have HC := Lib.hid hC
  generalize fdB (a, b) = t at *
  clear h hC
  go_enter Tryd.func6, Tryd.ntmps6
  go_wp2_with fail
  refine (hsz _).mono ?_
  rintro e w1 ⟨⟨r, rfl, hr⟩, hb1⟩
  have hb01 := (HA _).trans (hb1.mono (by simp))
  have q0 := hb1.cell (p := ⟨w.heap.size, 0, none⟩) (by simp)
  have q1 := hb1.cell (p := ⟨w.heap.size, 1, none⟩) (by simp)
  rw [World.cell?_alloc_at _ _ _ _ rfl] at q0 q1
  have hlt : w.heap.size < w1.heap.size := by have := hb1.size; simp at this; omega
  rcases hr with hr | hr
  · go_wp2
    go_ret
    exact ⟨rfl, hb01⟩
  · go_wp2_with fail
    refine (hto _).mono ?_
    rintro e w2 ⟨rfl, hb2⟩
    have hb02 := hb01.trans (hb2.mono hb01.size)
    have p0 := (hb2.cell (p := ⟨w.heap.size, 0, none⟩) hlt).trans q0
    have p1 := (hb2.cell (p := ⟨w.heap.size, 1, none⟩) hlt).trans q1
    have hlt2 : w.heap.size < w2.heap.size := Nat.lt_of_lt_of_le hlt hb2.size
    go_wp2_with fail
    refine (hS _).mono ?_
    rintro e w3 ⟨rfl, hb3⟩
    have hb03 := hb02.trans (hb3.mono hb02.size)
    have o0 := (hb3.cell (p := ⟨w.heap.size, 0, none⟩) hlt2).trans p0
    have o1 := (hb3.cell (p := ⟨w.heap.size, 1, none⟩) hlt2).trans p1
    go_wp2_with fail
    refine (hto _).mono ?_
    rintro e w4 ⟨rfl, hb4⟩
    have hb04 := hb03.trans (hb4.mono hb03.size)
    go_wp2_with fail
    refine (hI _ (HC.out _ hb04)).mono ?_
    rintro e w5 ⟨rfl, hb5⟩
    have hb05 := hb04.trans (hb5.mono hb04.size)
    cases t
    · go_wp2
      go_ret
      exact ⟨rfl, hb05⟩
    · go_wp2
      go_ret
      exact ⟨rfl, hb05⟩

set_option maxHeartbeats 800000 in
theorem law_ftext (a b : ByteArray) (w : World) (ha : a.size ≤ maxLen) (hb : b.size ≤ maxLen) (h : Cls w) :
    Calls Tryd.prog 7 #[.agg #[.string a, .string b]] w fun e w' => e = .returned (.bool true) ∧ Below w.heap.size w w' := by
  have hsz := fun W => sz_field1 a b W ha hb
  have hto := fun W => to_field1 a b W
  have hS := fun W => spec_text a b W ha hb
  have hI := fun W hW => impl_text a b W ha hb hW
  have HA : ∀ o, Below w.heap.size w (w.alloc o) := fun o => (Below.refl _ _).alloc (Nat.le_refl _) o
  have hC : ∀ W, Below w.heap.size w W → Cls W := fun W hW => h.below hW (Nat.le_refl _)
  have HC := Lib.hid hC
  generalize fdT (a, b) = t at *
  have hrefl : (t.toList != t.toList) = false := by simp
  clear h hC
  go_enter Tryd.func7, Tryd.ntmps7
  go_wp2_with fail
  refine (hsz _).mono ?_
  rintro e w1 ⟨⟨r, rfl, hr⟩, hb1⟩
  have hb01 := (HA _).trans (hb1.mono (by simp))
  have q0 := hb1.cell (p := ⟨w.heap.size, 0, none⟩) (by simp)
  have q1 := hb1.cell (p := ⟨w.heap.size, 1, none⟩) (by simp)
  rw [World.cell?_alloc_at _ _ _ _ rfl] at q0 q1
  have hlt : w.heap.size < w1.heap.size := by have := hb1.size; simp at this; omega
  rcases hr with hr | hr
  · go_wp2
    go_ret
    exact ⟨rfl, hb01⟩
  · go_wp2_with fail
    refine (hto _).mono ?_
    rintro e w2 ⟨rfl, hb2⟩
    have hb02 := hb01.trans (hb2.mono hb01.size)
    have p0 := (hb2.cell (p := ⟨w.heap.size, 0, none⟩) hlt).trans q0
    have p1 := (hb2.cell (p := ⟨w.heap.size, 1, none⟩) hlt).trans q1
    have hlt2 : w.heap.size < w2.heap.size := Nat.lt_of_lt_of_le hlt hb2.size
    go_wp2_with fail
    refine (hS _).mono ?_
    rintro e w3 ⟨rfl, hb3⟩
    have hb03 := hb02.trans (hb3.mono hb02.size)
    have o0 := (hb3.cell (p := ⟨w.heap.size, 0, none⟩) hlt2).trans p0
    have o1 := (hb3.cell (p := ⟨w.heap.size, 1, none⟩) hlt2).trans p1
    go_wp2_with fail
    refine (hto _).mono ?_
    rintro e w4 ⟨rfl, hb4⟩
    have hb04 := hb03.trans (hb4.mono hb03.size)
    go_wp2_with fail
    refine (hI _ (HC.out _ hb04)).mono ?_
    rintro e w5 ⟨rfl, hb5⟩
    have hb05 := hb04.trans (hb5.mono hb04.size)
    go_wp2
    go_ret
    exact ⟨rfl, hb05⟩

set_option maxHeartbeats 1600000 in
theorem law_fread (s : ByteArray) (w : World) (hs : s.size ≤ maxLen) (h : Cls w) :
    Calls Tryd.prog 8 #[.string s] w fun e w' => e = .returned (.bool true) ∧ Below w.heap.size w w' := by
  have hs' := hs
  unfold maxLen at hs'
  by_cases hbig : 1048576 < s.size
  · clear h
    go_enter Tryd.func8, Tryd.ntmps8
    go_wp2_with fail
    go_ret
    exact ⟨rfl, Below.refl _ _⟩
  · have hS := fun W => spec_read s W (by omega)
    have hI := fun W hW => impl_read s W (by omega) hW
    have hC : ∀ W, Below w.heap.size w W → Cls W := fun W hW => h.below hW (Nat.le_refl _)
    have HC := Lib.hid hC
    clear h hC
    generalize rdR s.data.toList = q at *
    obtain ⟨⟨a, b⟩, k⟩ := q
    unfold fdV at hS hI
    simp only at hS hI
    have hE := fun W => eq_field1 a b W
    go_enter Tryd.func8, Tryd.ntmps8
    go_wp2_with fail
    refine (hS _).mono ?_
    rintro e w1 ⟨rfl, hb1⟩
    have hb01 := hb1.alloc hb1.size (.cells #[.string a, .string b] 24)
    go_wp2_with fail
    refine (hI _ (HC.out _ hb01)).mono ?_
    rintro e w2 ⟨rfl, hb2⟩
    have hb02 := hb01.trans (hb2.mono hb01.size)
    have q0 := hb2.cell (p := ⟨w1.heap.size, 0, none⟩) (by simp)
    have q1 := hb2.cell (p := ⟨w1.heap.size, 1, none⟩) (by simp)
    rw [World.cell?_alloc_at _ _ _ _ rfl] at q0 q1
    have hlt : w1.heap.size < w2.heap.size := by have := hb2.size; simp at this; omega
    have hb03 := hb02.alloc hb02.size (.cells #[.string a, .string b] 24)
    go_wp2_with fail
    refine (hE _).mono ?_
    rintro e w3 ⟨rfl, hb3⟩
    have hb04 := hb03.trans (hb3.mono hb03.size)
    cases k
    · go_wp2
      go_ret
      exact ⟨rfl, hb04⟩
    · go_wp2
      go_ret
      exact ⟨rfl, hb04⟩
namespace Lw
theorem fnExactFldOk (w : World) (hL : laidMetH Tryd.prog Rows.fnExactFldOkRow.laid w) (f : ByteArray × ByteArray) (hf : f.1.size ≤ maxLen ∧ f.2.size ≤ maxLen) :
    Calls Tryd.prog 6 #[.agg #[.string f.1, .string f.2]] w fun e w' => e = .returned (.bool true) ∧ Below w.heap.size w w' := by
  have hL' : laidMet Tryd.prog Rows.fnExactFldOkRow.laid w := hL
  exact law_fok f.1 f.2 w hf.1 hf.2 (cls_of_head hL'.tail)
theorem fnExactFldText (w : World) (hL : laidMetH Tryd.prog Rows.fnExactFldTextRow.laid w) (f : ByteArray × ByteArray) (hf : f.1.size ≤ maxLen ∧ f.2.size ≤ maxLen) :
    Calls Tryd.prog 7 #[.agg #[.string f.1, .string f.2]] w fun e w' => e = .returned (.bool true) ∧ Below w.heap.size w w' := by
  have hL' : laidMet Tryd.prog Rows.fnExactFldTextRow.laid w := hL
  exact law_ftext f.1 f.2 w hf.1 hf.2 (cls_of_head hL'.tail)
theorem fnExactFldRead (w : World) (hL : laidMetH Tryd.prog Rows.fnExactFldReadRow.laid w) (s : ByteArray) (hs : s.size ≤ maxLen) :
    Calls Tryd.prog 8 #[.string s] w fun e w' => e = .returned (.bool true) ∧ Below w.heap.size w w' := by
  have hL' : laidMet Tryd.prog Rows.fnExactFldReadRow.laid w := hL
  exact law_fread s w hs (cls_of_head hL'.tail)
end Lw
end Go.Proofs.YtahbnclangfkaaaDoor

/- The law on what is read of a line, drawn. -/
import Derived.Test.YtahbnclangfkaaaDoorFPure
import Derived.Test.YtahbnclangfkaaaDoorDrawLn
namespace Go.Proofs.YtahbnclangfkaaaDoor
open Go.RowKit

/-- A variable of two texts, laid in a block, in whatever later world. -/
theorem var_at {w W : World} {x y : Value} {T : TypeId} (h : Below (w.alloc (.cells #[x, y] T)).heap.size (w.alloc (.cells #[x, y] T)) W) : W.cell? ⟨w.heap.size, 0, none⟩ = some x ∧ W.cell? ⟨w.heap.size, 1, none⟩ = some y := by
  have r := (h.block w.heap.size (by simp)).trans (heap_alloc_new w _)
  constructor <;> simp [World.cell?, r]

set_option maxRecDepth 100000 in
set_option maxHeartbeats 3200000 in
theorem law_fldread (a : Option Addr) (len cap : Nat) (zs : List Int) (w : World) (h : IsRow .u8 w a len cap zs) (hcls : Cls w) :
    Calls Tryd.prog 4 #[.slice a len cap] w fun e w' => e = .returned (.bool true) ∧ Below w.heap.size w w' := by
  have hlen := isrow_len h
  have HI := Lib.hid h
  have hCl : ∀ W, Below w.heap.size w W → Cls W := fun W hW => hcls.below hW (Nat.le_refl _)
  have HC := Lib.hid hCl
  clear h hcls hCl
  by_cases hbig : 1048576 < len
  · go_enter Tryd.func4, Tryd.ntmps4
    go_wp2_with fail
    go_ret
    exact ⟨rfl, Below.refl _ _⟩
  · have hb0 : decide ((1048576 : Int) < (len : Int)) = false := by simp; omega
    go_enter Tryd.func4, Tryd.ntmps4
    go_wp2_with fail
    refine (draw_fldread a len cap zs _ HI.out).mono ?_
    rintro e w1 ⟨l, rfl, hl, hb1⟩
    have hz : ¬ (9223372036854775807 < 1 + l.size) := by omega
    have hI1 := fun W hW => impl_read l W (by omega) hW
    have hS1 := fun W => spec_read l W (by omega)
    have hsp := read_space l.data.toList
    have hI3 := fun W hW => impl_read (⟨#[32]⟩ ++ l) W (by rw [bytes_app, one_size]; omega) hW
    rw [show (⟨#[32]⟩ ++ l : ByteArray).data.toList = 32 :: l.data.toList from by simp, hsp] at hI3
    have hok := fun f => read_ok (l := l.data.toList) (f := f)
    have hno := fun f => read_false (l := l.data.toList) (f := f)
    generalize hR : rdR l.data.toList = R at *
    obtain ⟨⟨s, t⟩, k⟩ := R
    unfold fdV at hI1 hS1 hI3
    simp only at hI1 hS1 hI3
    have HI3 := Lib.hid hI3; have HOk := Lib.hid hok; have HNo := Lib.hid hno
    clear hI3 hsp hR HI hok hno
    have hrs : (s.toList != s.toList) = false := by simp
    have hrt : (t.toList != t.toList) = false := by simp
    go_wp2_with fail
    refine (hI1 _ (HC.out _ hb1)).mono ?_
    rintro e w2 ⟨rfl, hb2⟩
    have hb02 := hb1.trans (hb2.mono hb1.size)
    have hb03 := hb02.alloc hb02.size (.cells #[.string s, .string t] 24)
    go_wp2_with fail
    refine (hS1 _).mono ?_
    rintro e w4 ⟨rfl, hb4⟩
    obtain ⟨c0, c1⟩ := var_at hb4
    have hb04 := hb03.trans (hb4.mono hb03.size)
    have hb05 := hb04.alloc hb04.size (.cells #[.string s, .string t] 24)
    have hv5 := hb4.alloc hb4.size (.cells #[.string s, .string t] 24)
    obtain ⟨d0, d1⟩ := var_at hv5
    have hc5 := HC.out _ hb05
    clear c0 c1 hb2 hb4 hb02 hb03 hb04
    cases k
    · have hst := HNo.out (s, t) rfl
      injection hst with hs0 ht0
      subst hs0 ht0
      go_wp2_with fail
      refine (gd_ok _ hc5).mono ?_
      rintro e w9 ⟨rfl, rfl⟩
      go_wp2
      go_ret
      exact ⟨rfl, hb05⟩
    · have hfd : fdB (s, t) = true := HOk.out (s, t) rfl
      obtain ⟨l1, l2⟩ := fdB_len hfd
      have ms : s.size ≤ maxLen := by unfold maxLen; omega
      have mt : t.size ≤ maxLen := by unfold maxLen; omega
      have hT := fun W hW => impl_text s t W ms mt hW
      have hO := fun W hW => impl_ok s t W ms mt hW
      rw [hfd] at hO
      have hTs : (fdT (s, t)).size ≤ 44 := by
        unfold fdT; rw [if_pos hfd]
        show (s ++ ⟨#[58, 32]⟩ ++ t).size ≤ 44
        rw [bytes_app, bytes_app, show (ByteArray.mk #[58, 32]).size = 2 from rfl]; omega
      have hI2 := fun W hW => impl_read (fdT (s, t)) W (by omega) hW
      rw [read_text hfd] at hI2
      unfold fdV at hI2
      simp only at hI2
      generalize fdT (s, t) = T at *
      have HO := Lib.hid hO; have HI2 := Lib.hid hI2; have HT := Lib.hid hT
      have es : (s.toList == s.toList) = true := by simp
      have et : (t.toList == t.toList) = true := by simp
      clear hO hI2 hT hfd hTs HOk HNo hI1 hS1
      go_wp2_with fail
      refine (HT.out _ hc5).mono ?_
      rintro e w6 ⟨rfl, hb6⟩
      have hb06 := hb05.trans (hb6.mono hb05.size)
      have hv6 := hv5.trans (hb6.mono hv5.size)
      go_wp2_with fail
      refine (HI2.out _ (HC.out _ hb06)).mono ?_
      rintro e w7 ⟨rfl, hb7⟩
      have hb07 := hb06.trans (hb7.mono hb06.size)
      have hv7 := hv6.trans (hb7.mono hv6.size)
      have hb08 := hb07.alloc hb07.size (.cells #[.string s, .string t] 24)
      have hv8 := hv7.alloc hv7.size (.cells #[.string s, .string t] 24)
      go_wp2_with fail
      refine (HI3.out _ (HC.out _ hb08)).mono ?_
      rintro e w9 ⟨rfl, hb9⟩
      have hx9 := hb9.alloc hb9.size (.cells #[.string ⟨#[]⟩, .string ⟨#[]⟩] 24)
      have hb010 := hb08.trans (hx9.mono hb08.size)
      have hv10 := hv8.trans (hx9.mono hv8.size)
      obtain ⟨f0, f1⟩ := var_at hv10
      have hc10 := HC.out _ hb010
      clear d0 d1 hv5 hv6 hv7 hv8 hb05 hb06 hb07 hb08 hb6 hb7 hb9
      go_wp2_with fail
      refine (HO.out _ hc10).mono ?_
      rintro e w11 ⟨rfl, hb11⟩
      obtain ⟨g0, g1⟩ := var_at (hv10.trans (hb11.mono hv10.size))
      obtain ⟨x0, x1⟩ := var_at (hx9.trans (hb11.mono hx9.size))
      have hbel := hb010.trans (hb11.mono hb010.size)
      go_wp2
      go_ret
      exact ⟨rfl, hbel⟩
namespace Lw
theorem fnFldRead (w : World) (hL : laidMetH Tryd.prog Rows.fnFldReadRow.laid w) (a : Option Addr) (len cap : Nat) (zs : List Int) (h : IsRow .u8 w a len cap zs) :
    Calls Tryd.prog 4 #[.slice a len cap] w fun e w' => e = .returned (.bool true) ∧ Below w.heap.size w w' := by
  have hL' : laidMet Tryd.prog Rows.fnFldReadRow.laid w := hL
  exact law_fldread a len cap zs w h (cls_of_head hL'.tail)
end Lw
end Go.Proofs.YtahbnclangfkaaaDoor

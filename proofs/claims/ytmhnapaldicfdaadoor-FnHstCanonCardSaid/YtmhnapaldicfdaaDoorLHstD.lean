/- The law on the plainest form of a host, over drawn inputs. -/
import Derived.Test.YtmhnapaldicfdaaDoorLHexD
import Derived.Test.YtmhnapaldicfdaaDoorGdOkD
import Derived.Test.YtmhnapaldicfdaaDoorDrawH
namespace Go.Proofs.YtmhnapaldicfdaaDoor
open Go.RowKit

set_option maxRecDepth 100000 in
set_option maxHeartbeats 3200000 in
theorem law_hst (a : Option Addr) (len cap : Nat) (zs : List Int) (w : World) (h : IsRow .u8 w a len cap zs) (hcls : Cls w) :
    Calls Tryd.prog 3 #[.slice a len cap] w fun e w' => e = .returned (.bool true) ∧ Below w.heap.size w w' := by
  have hl := isrow_len h
  by_cases hbig : 1048576 < len
  · clear hcls h
    go_enter Tryd.func3, Tryd.ntmps3
    go_wp2_with fail
    go_ret
    exact ⟨rfl, Below.refl _ _⟩
  · have c1 := draw_host a len cap zs w h
    clear h
    have HC : Hid (∀ W, Below w.heap.size w W → Cls W) := Lib.hid (fun W hW => hcls.below hW (Nat.le_refl _))
    clear hcls
    go_enter Tryd.func3, Tryd.ntmps3
    go_wp2_with fail
    refine c1.mono ?_
    rintro e w1 ⟨s, rfl, hs, hb1⟩
    clear c1
    have c2 := impl_host s w1 (by omega) (HC.out w1 hb1)
    have c3 := fun W => spec_host s W (by omega)
    obtain ⟨x, ok, hR⟩ : ∃ x ok, hostR s.data.toList = (x, ok) := ⟨_, _, rfl⟩
    rw [hR] at c2 c3
    dsimp only at c2 c3
    cases ok
    · obtain ⟨rfl, _⟩ := hostR_no hR
      clear hR
      go_wp2_with fail
      refine c2.mono ?_
      rintro e w2 ⟨rfl, hb⟩
      have hb2 := hb1.trans (hb.mono hb1.size)
      clear hb
      go_wp2_with fail
      refine (c3 _).mono ?_
      rintro e w3 ⟨rfl, hb⟩
      have hb3 := hb2.trans (hb.mono hb2.size)
      clear hb c2 c3
      have c4 := gd_ok w3 (HC.out w3 hb3)
      go_wp2_with fail
      refine c4.mono ?_
      rintro e w4 ⟨rfl, rfl⟩
      go_wp2
      go_ret
      exact ⟨rfl, hb3⟩
    · obtain ⟨hx, hxx⟩ := hostR_yes hR
      have hxl := host_len hx
      rw [← size_len] at hxl
      have e1 := strs_eq x
      have e2 := str_self x
      have c5 := fun W hW => impl_host x W (by omega) hW
      rw [host_again hx, mk_toList] at c5
      have c6 := fun W hW => impl_host (x ++ ⟨#[58, 56, 48]⟩) W (by rw [ByteArray.size_append]; have : (ByteArray.mk #[58, 56, 48]).size = 3 := rfl; omega) hW
      have hcat : (x ++ (⟨#[58, 56, 48]⟩ : ByteArray)).data.toList = x.data.toList ++ [58, 56, 48] := by simp
      rw [hcat, host_port hx, mk_toList] at c6
      have c7 := fun W hW => impl_lower x W (by unfold maxLen; omega) hW
      rw [host_low hx] at c7
      unfold strV at c7
      rw [mk_toList] at c7
      clear hR hxx hcat hx
      go_wp2_with fail
      refine c2.mono ?_
      rintro e w2 ⟨rfl, hb⟩
      have hb2 := hb1.trans (hb.mono hb1.size)
      clear hb
      go_wp2_with fail
      refine (c3 _).mono ?_
      rintro e w3 ⟨rfl, hb⟩
      have hb3 := hb2.trans (hb.mono hb2.size)
      clear hb c2 c3 hb1 hb2
      go_wp2_with fail
      refine (c5 _ (HC.out _ hb3)).mono ?_
      rintro e w4 ⟨rfl, hb⟩
      have hb4 := hb3.trans (hb.mono hb3.size)
      clear hb c5 hb3
      go_wp2_with fail
      refine (c6 _ (HC.out _ hb4)).mono ?_
      rintro e w5 ⟨rfl, hb⟩
      have hb5 := hb4.trans (hb.mono hb4.size)
      clear hb c6 hb4
      go_wp2_with fail
      refine (c7 _ (HC.out _ hb5)).mono ?_
      rintro e w6 ⟨rfl, hb⟩
      have hb6 := hb5.trans (hb.mono hb5.size)
      clear hb c7 hb5
      go_wp2
      go_ret
      exact ⟨rfl, hb6⟩
namespace Lw
theorem fnHstCanon (w : World) (hL : laidMetH Tryd.prog Rows.fnHstCanonRow.laid w) (a : Option Addr) (len cap : Nat) (zs : List Int) (h : IsRow .u8 w a len cap zs) :
    Calls Tryd.prog 3 #[.slice a len cap] w fun e w' => e = .returned (.bool true) ∧ Below w.heap.size w w' :=
  law_hst a len cap zs w h (cls_of_head hL)
end Lw
end Go.Proofs.YtmhnapaldicfdaaDoor

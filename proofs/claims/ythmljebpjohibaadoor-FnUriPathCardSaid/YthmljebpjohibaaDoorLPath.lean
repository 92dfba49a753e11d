/- The law on paths, over drawn inputs. -/
import Derived.Test.YthmljebpjohibaaDoorCan9
import Derived.Test.YthmljebpjohibaaDoorCanP
import Derived.Test.YthmljebpjohibaaDoorDrawU
import Derived.Test.YthmljebpjohibaaDoorGdOk
namespace Go.Proofs.YthmljebpjohibaaDoor
open Go.RowKit

theorem pth_none : canV none = .tuple #[.string ⟨#[]⟩, .bool false] := rfl
theorem pth_some (c : List UInt8) : canV (some c) = .tuple #[.string ⟨c.toArray⟩, .bool true] := rfl

set_option maxHeartbeats 800000 in
theorem gd_has_no (s : ByteArray) (c : UInt8) (w : World) (hs : s.size ≤ maxLen) (hno : c ∉ s.data.toList) :
    Calls Tryd.prog 25 #[.string s, .int .u8 c.toNat] w fun e w' => e = .returned (.bool false) ∧ w = w' := by
  unfold maxLen at hs
  have HN : Hid (∀ k (hk : k < s.size), ((s[k].toNat : Int) == (c.toNat : Int)) = false) := Lib.hid (fun k hk => by
    rw [beq_eq_false_iff_ne]; intro h2
    have e : s[k] = c := UInt8.toNat_inj.mp (by omega)
    exact hno (e ▸ List.mem_of_getElem? (at_get s k hk)))
  clear hno
  go_enter Tryd.func25, Tryd.ntmps25
  go_wp2_with fail
  go_loop [5] (fun i => ∃ k : Nat, k ≤ s.size ∧ i = .int .i64 k) (fun i => s.size - (intOf i).toNat)
  case atStart => exact ⟨0, Nat.zero_le _, rfl⟩
  case round =>
    obtain ⟨k, hk, rfl⟩ := hrel
    by_cases hlt : k < s.size
    · have hx := HN.out k hlt
      go_wp2
      go_round
      case rel => exact ⟨k + 1, by omega, by go_num⟩
      case measure => simp [intOf]; omega
    · go_wp2
      go_ret
      exact ⟨rfl, rfl⟩

set_option maxRecDepth 100000 in
set_option maxHeartbeats 3200000 in
theorem law_uripath (a : Option Addr) (len cap : Nat) (zs : List Int) (w : World) (h : IsRow .u8 w a len cap zs) (hcls : Cls w) :
    Calls Tryd.prog 7 #[.slice a len cap] w fun e w' => e = .returned (.bool true) ∧ Below w.heap.size w w' := by
  have hl := isrow_len h
  by_cases hbig : 1048576 < len
  · clear hcls h
    go_enter Tryd.func7, Tryd.ntmps7
    go_wp2_with fail
    go_ret
    exact ⟨rfl, Below.refl _ _⟩
  · have c1 := draw_uri a len cap zs w h
    clear h
    have HC : Hid (∀ W, Below w.heap.size w W → Cls W) := Lib.hid (fun W hW => hcls.below hW (Nat.le_refl _))
    clear hcls
    go_enter Tryd.func7, Tryd.ntmps7
    go_wp2_with fail
    refine c1.mono ?_
    rintro e w1 ⟨s, rfl, hs, hb1⟩
    clear c1
    have c2 := impl_canon s w1 (by omega) (HC.out w1 hb1)
    have c3 := fun W => spec_canon s W (by omega)
    cases hR : canonL s.data.toList with
    | none =>
      rw [hR, pth_none] at c2 c3
      clear hR
      go_wp2_with fail
      refine c2.mono ?_
      rintro e w2 ⟨rfl, hb⟩
      have hb2 := hb1.trans (hb.mono hb1.size)
      clear hb
      go_wp2_with fail
      refine (c3 _).mono ?_
      rintro e w3 ⟨rfl, hb⟩
      have hb3 := hb2.trans (hb.mono hb2.size)
      clear hb c2 c3
      have c4 := gd_ok w3 (HC.out w3 hb3)
      go_wp2_with fail
      refine c4.mono ?_
      rintro e w4 ⟨rfl, rfl⟩
      go_wp2
      go_ret
      exact ⟨rfl, hb3⟩
    | some c =>
      rw [hR, pth_some] at c2 c3
      obtain ⟨f1, f2, f3, o, f4, f5, f6, f7, f8, f9⟩ := canon_form hR
      clear hR f1 f3 f6 f7
      have hcs : (ByteArray.mk c.toArray).size ≤ 40 := by rw [size_len]; simpa using f2
      have hol : (47 :: o : List UInt8).length ≤ 40 := by rw [← f4]; have := pathL_len c; omega
      have hpp : pathL (47 :: o) = 47 :: o := by rw [← f4, pathL_idem, f4]
      have hps : (ByteArray.mk (47 :: o).toArray).size = (47 :: o : List UInt8).length := by rw [size_len]
      have c4 := fun W => impl_path ⟨c.toArray⟩ W (by omega)
      have c5 := fun W hW => impl_canon ⟨(47 :: o).toArray⟩ W (by omega) (HC.out W hW)
      have c6 := fun W => impl_path ⟨(47 :: o).toArray⟩ W (by omega)
      have c7 := fun W => gd_has_no ⟨(47 :: o).toArray⟩ 63 W (by unfold maxLen; omega) f5
      have hq : (ByteArray.mk (47 :: o).toArray ++ ⟨#[63]⟩ : ByteArray) = ⟨(47 :: o ++ [63]).toArray⟩ := cat_mk (47 :: o) [63]
      have hqs : (ByteArray.mk (47 :: o).toArray ++ ⟨#[63]⟩ : ByteArray).size = (47 :: o : List UInt8).length + 1 := by rw [ByteArray.size_append, hps]; rfl
      have c8 := fun W hW => impl_canon (⟨(47 :: o).toArray⟩ ++ ⟨#[63]⟩) W (by omega) (HC.out W hW)
      have hqp : pathL (47 :: o ++ [63]) = 47 :: o := by unfold pathL; rw [show (47 :: o ++ [63] : List UInt8) = (47 :: o) ++ 63 :: [] from rfl, cutL_yes _ _ _ f5]
      have e8 : (ByteArray.mk (47 :: o).toArray ++ ⟨#[63]⟩ : ByteArray).data.toList = 47 :: o ++ [63] := by rw [hq]
      rw [e8] at c8
      have c9 := fun W => impl_path ⟨(47 :: o ++ [63]).toArray⟩ W (by rw [size_len]; simp at hol ⊢; omega)
      have c10 := fun W => impl_under ⟨(47 :: o).toArray⟩ ⟨(47 :: o ++ [63]).toArray⟩ W (by omega) (by rw [size_len]; simp at hol ⊢; omega)
      simp only [UInt8.reduceToNat, Int.cast_ofNat_Int] at c4 c5 c6 c7 c9 c10
      rw [f4] at c4
      rw [f8, pth_some] at c5
      rw [hpp] at c6
      rw [hqp] at c9
      have hund := under_self (47 :: o ++ [63])
      rw [hqp] at hund
      rw [hund] at c10
      unfold strV at c4 c6 c9
      have hz := one_sz 63
      by_cases h40 : (47 :: o : List UInt8).length = 40
      · have hlen : (ByteArray.mk (47 :: o).toArray).size = 40 := by omega
        obtain ⟨x0, x1, hx⟩ : ∃ x0 x1, canV (canonL (47 :: o ++ [63])) = .tuple #[.string x0, .bool x1] := ⟨_, _, rfl⟩
        rw [hx] at c8
        clear hx f2 f4 f5 f8 f9 hpp hq hqp e8 c9 c10 hund hqs hps hol h40
        generalize ByteArray.mk (47 :: o).toArray = os at *
        generalize ByteArray.mk c.toArray = cs at *
        go_wp2_with fail
        refine c2.mono ?_
        rintro e w2 ⟨rfl, hb⟩
        have hb2 := hb1.trans (hb.mono hb1.size)
        clear hb
        go_wp2_with fail
        refine (c3 _).mono ?_
        rintro e w3 ⟨rfl, hb⟩
        have hb3 := hb2.trans (hb.mono hb2.size)
        clear hb c2 c3
        go_wp2_with fail
        refine (c4 _).mono ?_
        rintro e w4 ⟨rfl, hb⟩
        have hb4 := hb3.trans (hb.mono hb3.size)
        clear hb c4
        go_wp2_with fail
        refine (c5 _ hb4).mono ?_
        rintro e w5 ⟨rfl, hb⟩
        have hb5 := hb4.trans (hb.mono hb4.size)
        clear hb c5
        go_wp2_with fail
        refine (c6 _).mono ?_
        rintro e w6 ⟨rfl, hb⟩
        have hb6 := hb5.trans (hb.mono hb5.size)
        clear hb c6
        go_wp2_with fail
        refine (c7 _).mono ?_
        rintro e w7 ⟨rfl, rfl⟩
        clear c7
        go_wp2_with fail
        refine (c8 _ hb6).mono ?_
        rintro e w8 ⟨rfl, hb⟩
        have hb8 := hb6.trans (hb.mono hb6.size)
        clear hb c8
        go_wp2
        go_ret
        exact ⟨rfl, hb8⟩
      · rcases f9 with f9 | f9
        · exact absurd f9 h40
        · rw [f9, pth_some] at c8
          have hlen : (ByteArray.mk (47 :: o).toArray).size ≤ 39 := by omega
          clear f2 f4 f5 f8 f9 hpp hq hqp e8 hund hps hol h40 hqs
          generalize ByteArray.mk (47 :: o ++ [63]).toArray = xs at *
          generalize ByteArray.mk (47 :: o).toArray = os at *
          generalize ByteArray.mk c.toArray = cs at *
          go_wp2_with fail
          refine c2.mono ?_
          rintro e w2 ⟨rfl, hb⟩
          have hb2 := hb1.trans (hb.mono hb1.size)
          clear hb
          go_wp2_with fail
          refine (c3 _).mono ?_
          rintro e w3 ⟨rfl, hb⟩
          have hb3 := hb2.trans (hb.mono hb2.size)
          clear hb c2 c3
          go_wp2_with fail
          refine (c4 _).mono ?_
          rintro e w4 ⟨rfl, hb⟩
          have hb4 := hb3.trans (hb.mono hb3.size)
          clear hb c4
          go_wp2_with fail
          refine (c5 _ hb4).mono ?_
          rintro e w5 ⟨rfl, hb⟩
          have hb5 := hb4.trans (hb.mono hb4.size)
          clear hb c5
          go_wp2_with fail
          refine (c6 _).mono ?_
          rintro e w6 ⟨rfl, hb⟩
          have hb6 := hb5.trans (hb.mono hb5.size)
          clear hb c6
          go_wp2_with fail
          refine (c7 _).mono ?_
          rintro e w7 ⟨rfl, rfl⟩
          clear c7
          go_wp2_with fail
          refine (c8 _ hb6).mono ?_
          rintro e w8 ⟨rfl, hb⟩
          have hb8 := hb6.trans (hb.mono hb6.size)
          clear hb c8
          go_wp2_with fail
          refine (c9 _).mono ?_
          rintro e w9 ⟨rfl, hb⟩
          have hb9 := hb8.trans (hb.mono hb8.size)
          clear hb c9
          go_wp2_with fail
          refine (c10 _).mono ?_
          rintro e w10 ⟨rfl, hb⟩
          have hb10 := hb9.trans (hb.mono hb9.size)
          clear hb c10
          go_wp2
          go_ret
          exact ⟨rfl, hb10⟩
namespace Lw
theorem fnUriPath (w : World) (hL : laidMetH Tryd.prog Rows.fnUriPathRow.laid w) (a : Option Addr) (len cap : Nat) (zs : List Int) (h : IsRow .u8 w a len cap zs) :
    Calls Tryd.prog 7 #[.slice a len cap] w fun e w' => e = .returned (.bool true) ∧ Below w.heap.size w w' :=
  law_uripath a len cap zs w h (cls_of_head hL)
end Lw
end Go.Proofs.YthmljebpjohibaaDoor

/- The law on small and great digits of codes, over drawn inputs. -/
import Derived.Test.YthmljebpjohibaaDoorCan9
import Derived.Test.YthmljebpjohibaaDoorLowD
import Derived.Test.YthmljebpjohibaaDoorDrawU
import Derived.Test.YthmljebpjohibaaDoorGdOk
namespace Go.Proofs.YthmljebpjohibaaDoor
open Go.RowKit

theorem dig_none : canV none = .tuple #[.string ⟨#[]⟩, .bool false] := rfl
theorem dig_some (c : List UInt8) : canV (some c) = .tuple #[.string ⟨c.toArray⟩, .bool true] := rfl
theorem lowC_out {p1 p2 : Bool} {c : UInt8} (h : c.toNat < 65 ∨ 70 < c.toNat) : lowC p1 p2 c = c := by unfold lowC; rw [if_neg (by omega)]
theorem lowC_in {p1 p2 : Bool} {c : UInt8} (h1 : 65 ≤ c.toNat) (h2 : c.toNat ≤ 70) (h : (p1 || p2) = true) : lowC p1 p2 c = UInt8.ofNat (c.toNat + 32) := by unfold lowC; rw [if_pos ⟨h1, h2, h⟩]

set_option maxRecDepth 100000 in
set_option maxHeartbeats 6400000 in
theorem law_uridigits (a : Option Addr) (len cap : Nat) (zs : List Int) (w : World) (h : IsRow .u8 w a len cap zs) (hcls : Cls w) :
    Calls Tryd.prog 8 #[.slice a len cap] w fun e w' => e = .returned (.bool true) ∧ Below w.heap.size w w' := by
  have hl := isrow_len h
  by_cases hbig : 1048576 < len
  · clear hcls h
    go_enter Tryd.func8, Tryd.ntmps8
    go_wp2_with fail
    go_ret
    exact ⟨rfl, Below.refl _ _⟩
  · have c1 := draw_uri a len cap zs w h
    clear h
    have HC : Hid (∀ W, Below w.heap.size w W → Cls W) := Lib.hid (fun W hW => hcls.below hW (Nat.le_refl _))
    clear hcls
    go_enter Tryd.func8, Tryd.ntmps8
    go_wp2_with fail
    refine c1.mono ?_
    rintro e w1 ⟨s, rfl, hs, hb1⟩
    clear c1
    obtain ⟨R, hR⟩ : ∃ R, R = lowD false false s.data.toList := ⟨_, rfl⟩
    have hRl : R.length = s.size := by rw [hR, lowD_len, size_len]
    have hcan : canonL R = canonL s.data.toList := by rw [hR, canon_low]
    have hR0 : Hid (R = [] ++ lowD (sgn s 0) (sgn s (0 - 1)) (s.data.toList.drop 0)) := Lib.hid (by rw [sgn_zero, List.drop_zero]; exact hR)
    clear hR
    go_wp2_with fail
    go_loopw [4, 5] (fun t i wr => ∃ (k : Nat) (acc : List UInt8), k ≤ s.size ∧ i = .int .i64 k ∧ t = .string ⟨acc.toArray⟩ ∧ acc.length = k ∧ Hid (R = acc ++ lowD (sgn s k) (sgn s (k - 1)) (s.data.toList.drop k)) ∧ Below w.heap.size w wr) (fun _ i _ => s.size - (intOf i).toNat)
    case atStart => exact ⟨0, [], Nat.zero_le _, rfl, rfl, rfl, hR0, hb1⟩
    case round =>
      clear hR0
      have HCN := Lib.hid hcan
      have HRL := Lib.hid hRl
      clear hcan hRl
      obtain ⟨k, acc, hk, rfl, rfl, hacc, HR, hbel⟩ := hrel
      have hsz : (ByteArray.mk acc.toArray).size ≤ 50 := by rw [size_len]; simp; omega
      by_cases hlt : k < s.size
      · rw [drop_at s k hlt, low_cons] at HR
        have HS : Hid (∀ x, lowC (sgn s k) (sgn s (k - 1)) s[k] = x → R = (acc ++ [x]) ++ lowD (sgn s (k + 1)) (sgn s (k + 1 - 1)) (s.data.toList.drop (k + 1))) := Lib.hid (by
          intro x hx
          rw [HR.out, hx, sgn_succ s k hlt, Nat.add_sub_cancel]; simp)
        clear HR
        have hx : (ByteArray.mk acc.toArray) ++ s.extract k (k + 1) = ⟨(acc ++ [s[k]]).toArray⟩ := by
          rw [ext_one s k hlt]; exact cat_mk acc [s[k]]
        have hsz1 : (s.extract k (k + 1)).size ≤ 1 := by simp; omega
        have hc8 := s[k].toNat_lt
        have hplain : ∀ wr : World, Below w.heap.size w wr → lowC (sgn s k) (sgn s (k - 1)) s[k] = s[k] → ∃ (k' : Nat) (acc' : List UInt8), k' ≤ s.size ∧ Value.int .i64 ((k : Int) + 1) = .int .i64 k' ∧ Value.string ⟨(acc ++ [s[k]]).toArray⟩ = .string ⟨acc'.toArray⟩ ∧ acc'.length = k' ∧ Hid (R = acc' ++ lowD (sgn s k') (sgn s (k' - 1)) (s.data.toList.drop k')) ∧ Below w.heap.size w wr := fun wr hb hlow => ⟨k + 1, acc ++ [s[k]], by omega, by go_num, rfl, by simp; omega, Lib.hid (HS.out _ hlow), hb⟩
        have HP := Lib.hid hplain
        clear hplain
        by_cases hr : s[k].toNat < 65 ∨ 70 < s[k].toNat
        · have hlow := lowC_out (p1 := sgn s k) (p2 := sgn s (k - 1)) hr
          have HL := Lib.hid hlow
          clear hlow
          rcases hr with hr | hr
          · go_wp2
            go_roundw
            case rel => exact HP.out wr hbel HL.out
            case measure => simp [intOf]; omega
          · go_wp2
            go_roundw
            case rel => exact HP.out wr hbel HL.out
            case measure => simp [intOf]; omega
        · have hr1 : 65 ≤ s[k].toNat := by omega
          have hr2 : s[k].toNat ≤ 70 := by omega
          clear hr
          have hcv := fun W => run_conv1 (P := Tryd.prog) 22 9 5 5 Tryd.underlying22 Tryd.underlying5 Tryd.underlying9 W ((s[k].toNat : Int) + 32) (by omega) (by omega)
          have hyn : UInt8.ofNat (((s[k].toNat : Int) + 32).toNat) = UInt8.ofNat (s[k].toNat + 32) := by congr 1
          rw [hyn] at hcv
          have HSm : Hid (∀ wr : World, Below w.heap.size w wr → (sgn s k || sgn s (k - 1)) = true → ∃ (k' : Nat) (acc' : List UInt8), k' ≤ s.size ∧ Value.int .i64 ((k : Int) + 1) = .int .i64 k' ∧ Value.string ((ByteArray.mk acc.toArray) ++ ⟨#[UInt8.ofNat (s[k].toNat + 32)]⟩) = .string ⟨acc'.toArray⟩ ∧ acc'.length = k' ∧ Hid (R = acc' ++ lowD (sgn s k') (sgn s (k' - 1)) (s.data.toList.drop k')) ∧ Below w.heap.size w wr) := Lib.hid (fun wr hb hsg => ⟨k + 1, acc ++ [UInt8.ofNat (s[k].toNat + 32)], by omega, by go_num, congrArg Value.string (cat_mk acc [UInt8.ofNat (s[k].toNat + 32)]), by simp; omega, Lib.hid (HS.out _ (lowC_in hr1 hr2 hsg)), hb⟩)
          have HLn : Hid ((sgn s k || sgn s (k - 1)) = false → lowC (sgn s k) (sgn s (k - 1)) s[k] = s[k]) := Lib.hid (fun hsg => by unfold lowC; rw [if_neg (by rw [hsg]; simp)])
          clear hyn HS
          have hone : (ByteArray.mk #[UInt8.ofNat (s[k].toNat + 32)]).size = 1 := rfl
          generalize UInt8.ofNat (s[k].toNat + 32) = y at *
          rcases Nat.eq_zero_or_pos k with hk0 | hk0
          · subst hk0
            have hg : (sgn s 0 || sgn s (0 - 1)) = false := by rw [sgn_zero]; rfl
            have HG := Lib.hid hg; clear hg
            go_wp2
            go_roundw
            case rel => exact HP.out wr hbel (HLn.out HG.out)
            case measure => simp [intOf]; omega
          · obtain ⟨j, rfl⟩ : ∃ j, k = j + 1 := ⟨k - 1, by omega⟩
            have hj1 : j < s.size := by omega
            have e1 := u8_eqk s[j] 37
            have hsg1 := sgn_succ s j hj1
            simp only [UInt8.reduceToNat, Int.cast_ofNat_Int] at e1
            rw [Nat.add_sub_cancel] at HP HSm HLn
            rw [hsg1] at HP HSm HLn
            clear hsg1
            generalize hb37 : (s[j] == 37) = b37 at *
            clear hb37
            cases b37 with
            | true =>
              go_wp2
              go_roundw
              case rel => exact HSm.out _ (hbel.alloc hbel.size _) rfl
              case measure => simp [intOf]; omega
            | false =>
              rcases Nat.eq_zero_or_pos j with hj0 | hj0
              · subst hj0
                have hg : (false || sgn s 0) = false := by rw [sgn_zero]; rfl
                have HG := Lib.hid hg; clear hg
                have q1 : 65 ≤ (s[1]'hlt).toNat := hr1
                have q2 : (s[1]'hlt).toNat ≤ 70 := hr2
                go_wp2
                go_roundw
                case rel => exact HP.out wr hbel (HLn.out HG.out)
                case measure => simp [intOf]; omega
              · obtain ⟨m, rfl⟩ : ∃ m, j = m + 1 := ⟨j - 1, by omega⟩
                have hm1 : m < s.size := by omega
                have e2 := u8_eqk s[m] 37
                have hsg2 := sgn_succ s m hm1
                simp only [UInt8.reduceToNat, Int.cast_ofNat_Int] at e2
                rw [hsg2] at HP HSm HLn
                clear hsg2
                generalize hb2 : (s[m] == 37) = b2 at *
                clear hb2
                cases b2 with
                | true =>
                  go_wp2
                  go_roundw
                  case rel => exact HSm.out _ (hbel.alloc hbel.size _) rfl
                  case measure => simp [intOf]; omega
                | false =>
                  go_wp2
                  go_roundw
                  case rel => exact HP.out wr hbel (HLn.out rfl)
                  case measure => simp [intOf]; omega
      · have e : R = acc := by rw [HR.out, drop_end s k (by omega)]; simp [lowD]
        have hcan := HCN.out
        rw [e] at hcan
        have hasz : (ByteArray.mk acc.toArray).size ≤ 50 := hsz
        have c2 := impl_canon s wr (by omega) (HC.out wr hbel)
        have c3 := fun W hW => impl_canon ⟨acc.toArray⟩ W (by omega) (HC.out W hW)
        have c4 := fun W => spec_canon s W (by omega)
        simp only at c3
        rw [hcan] at c3
        clear e hcan HR HCN HRL
        generalize ByteArray.mk acc.toArray = ts at *
        cases hcn : canonL s.data.toList with
        | none =>
          rw [hcn, dig_none] at c2 c3 c4
          clear hcn
          go_wp2_with fail
          refine c2.mono ?_
          rintro e w2 ⟨rfl, hb⟩
          have hb2 := hbel.trans (hb.mono hbel.size)
          clear hb
          go_wp2_with fail
          refine (c3 _ hb2).mono ?_
          rintro e w3 ⟨rfl, hb⟩
          have hb3 := hb2.trans (hb.mono hb2.size)
          clear hb c2 c3
          go_wp2_with fail
          refine (c4 _).mono ?_
          rintro e w4 ⟨rfl, hb⟩
          have hb4 := hb3.trans (hb.mono hb3.size)
          clear hb c4
          have c5 := gd_ok w4 (HC.out w4 hb4)
          go_wp2_with fail
          refine c5.mono ?_
          rintro e w5 ⟨rfl, rfl⟩
          go_wp2
          go_ret
          exact ⟨rfl, hb4⟩
        | some c =>
          rw [hcn, dig_some] at c2 c3 c4
          clear hcn
          generalize ByteArray.mk c.toArray = cs at *
          go_wp2_with fail
          refine c2.mono ?_
          rintro e w2 ⟨rfl, hb⟩
          have hb2 := hbel.trans (hb.mono hbel.size)
          clear hb
          go_wp2_with fail
          refine (c3 _ hb2).mono ?_
          rintro e w3 ⟨rfl, hb⟩
          have hb3 := hb2.trans (hb.mono hb2.size)
          clear hb c2 c3
          go_wp2_with fail
          refine (c4 _).mono ?_
          rintro e w4 ⟨rfl, hb⟩
          have hb4 := hb3.trans (hb.mono hb3.size)
          clear hb c4
          have c5 := gd_ok w4 (HC.out w4 hb4)
          go_wp2_with fail
          refine c5.mono ?_
          rintro e w5 ⟨rfl, rfl⟩
          go_wp2
          go_ret
          exact ⟨rfl, hb4⟩
namespace Lw
theorem fnUriDigits (w : World) (hL : laidMetH Tryd.prog Rows.fnUriDigitsRow.laid w) (a : Option Addr) (len cap : Nat) (zs : List Int) (h : IsRow .u8 w a len cap zs) :
    Calls Tryd.prog 8 #[.slice a len cap] w fun e w' => e = .returned (.bool true) ∧ Below w.heap.size w w' :=
  law_uridigits a len cap zs w h (cls_of_head hL)
end Lw
end Go.Proofs.YthmljebpjohibaaDoor

/- The law on all values of a name, exact. -/
import Derived.Test.YtahbnclangfkaaaFEq
namespace Go.Proofs.Ytahbnclangfkaaa
open Go.RowKit Go.Maps

theorem all_len' (fs : List Fd) (s : ByteArray) : (allTo fs s fs.length).length ≤ fs.length := by
  rw [← idx_vals, List.length_map]; exact idx_len fs s _
theorem mark_fields1 (g n : Nat) (F : Nat → Fd) (w : World) (h : FCells w g n F) (hk : n ≤ 2000000) :
    Calls Try.prog 11 #[.slice (some ⟨g, 0, none⟩) n n, .int .i64 1] w fun e w' => e = .returned (.int .i64 (1 + 2 * (n : Int))) ∧ w.grownBy w' (some g) := mark_fields g n 1 F w h (by omega)
theorem not_own {w : World} {B : Nat} {e : TypeId} {v : Value} {n : Nat} {xs : List Value} (__h : w.ownsRow B e 1 v n xs) {g : Nat} (hg : ∀ k, v.ownBlock = some k → k ≠ g) : v.ownBlock = none ∨ v.ownBlock ≠ some g := by
  cases hv : v.ownBlock with
  | none => exact .inl rfl
  | some k => exact .inr fun e => hg k hv (Option.some.inj e)
theorem sV_map (L : List ByteArray) : L.map sV = (L.map fun s => s.data.toList).map strV := by
  rw [List.map_map]
  refine List.map_congr_left fun s _ => ?_
  simp [sV, strV]
theorem FOk.mono {fs : List Fd} {K K' : Nat} (h : FOk fs K) (hK : K ≤ K') : FOk fs K' := fun f hf => ⟨Nat.le_trans (h f hf).1 hK, Nat.le_trans (h f hf).2 hK⟩

set_option maxHeartbeats 1600000 in
theorem law_all (v : Value) (fs : List Fd) (s : ByteArray) (w : World) (hF : FRow w v fs) (hok : FOk fs maxLen) (hs : s.size ≤ maxLen) :
    Calls Try.prog 3 #[v, .string s] w fun e w' => e = .returned (.bool true) ∧ Below w.heap.size w w' := by
  have hs' := hs
  unfold maxLen at hs'
  have HF := Lib.hid hF; have HOK := Lib.hid hok; have HS := Lib.hid hs
  by_cases hbig : 1048576 < s.size
  · clear hF hok hs
    go_enter Try.func3, Try.ntmps3
    go_wp2_with fail
    go_ret
    exact ⟨rfl, Below.refl _ _⟩
  · clear hF hok hs
    go_enter Try.func3, Try.ntmps3
    go_wp2_with fail
    refine (sz_fields v fs _ HF.out HOK.out).mono ?_
    rintro e w1 ⟨⟨r, rfl, hr⟩, hb1⟩
    rcases hr with hr | ⟨hr, hok1, hn⟩
    · go_wp2
      go_ret
      exact ⟨rfl, hb1⟩
    · have hok2 : FOk fs 281474976710656 := hok1.mono (by omega)
      have hmx : fs.length ≤ maxLen := by unfold maxLen; omega
      have hF1 := HF.out.below (Nat.le_refl _) hb1
      have HOK2 := Lib.hid hok2
      have hN := all_len' fs s
      clear hok1 hok2 HOK
      go_wp2_with fail
      refine (to_fields v fs _ hF1 hn).mono ?_
      rintro e w2 ⟨rfl, hc2, hb2⟩
      have hbel2 := hb1.trans (hb2.mono hb1.size)
      have hR2 := hc2.row hmx
      go_wp2_with fail
      refine (spec_all _ fs s _ hR2 (by omega)).mono ?_
      rintro e w3 ⟨u1, rfl, ho3, hb3⟩
      have hbel3 := hbel2.trans (hb3.mono hbel2.size)
      have hF3 := HF.out.below (Nat.le_refl _) hbel3
      clear hc2 hR2 hF1
      go_wp2_with fail
      refine (to_fields v fs _ hF3 hn).mono ?_
      rintro e w4 ⟨rfl, hc4, hb4⟩
      have hbel4 := hbel3.trans (hb4.mono hbel3.size)
      have hR4 := hc4.row hmx
      go_wp2_with fail
      refine (impl_all _ fs s _ hR4 HOK2.out (by omega) HS.out).mono ?_
      rintro e w5 ⟨u2, rfl, ho5, hb5⟩
      have hbel5 := hbel4.trans (hb5.mono hbel4.size)
      have hb35 := hb4.trans (hb5.mono hb4.size)
      have ho35 := own_below ho3 hb35
      rw [sV_map] at ho5 ho35
      have hv1 := ho3.lt
      have hx0 := hc4.lt
      have hv2 := ho5.lt
      clear ho3 hR4
      generalize hL : allTo fs s fs.length = L at *
      have HL := Lib.hid hL; clear hL
      go_wp2_with fail
      refine (eq_strings _ _ _ _ (Rd1.of_own ho5) (Rd1.of_own ho35)).mono ?_
      rintro e w6 ⟨rfl, n6, rfl⟩
      have hF5 := (HF.out.below (Nat.le_refl _) hbel5).drewN n6
      go_wp2_with fail
      refine (to_fields v fs _ hF5 hn).mono ?_
      rintro e w7 ⟨rfl, hc7, hb7⟩
      have hb57 : Below w5.heap.size w5 w7 := below_drewN_left hb7
      have hR7 := hc7.row hmx
      have hb47 := hb5.trans (hb57.mono hb5.size)
      have hc4' := hc4.keep (hb47.block _ hc4.lt)
      have hR4 := hc4'.row hmx
      clear hF5 hF3 hc4 hc7
      go_wp2_with fail
      refine (eq_fields _ _ fs _ hR4 hR7 (by omega)).mono ?_
      rintro e w8 ⟨rfl, hb8⟩
      have hb58 := hb57.trans (hb8.mono hb57.size)
      have hc8 := hc4'.keep (hb8.block _ hc4'.lt)
      clear hR4 hR7 hc4'
      go_wp2_with fail
      refine (mark_fields1 _ _ _ _ hc8 (by omega)).mono ?_
      rintro e w9 ⟨rfl, hg9⟩
      have ho58 := own_below ho5 hb58
      have ho38 := own_below ho35 hb58
      have ho59 := ho58.kept hg9 (not_own ho58 fun k hk => by have := (hv2 k hk).1; omega)
      have ho39 := ho38.kept hg9 (not_own ho38 fun k hk => by have := (hv1 k hk).2; omega)
      have hbel8 := hbel5.trans (hb58.mono hbel5.size)
      have hbel9 : Below w.heap.size w w9 := hbel8.grown hg9 hbel8.size (fun k hk => by cases hk; exact hbel3.size)
      have hz0 : ¬ ((1 : Int) + 2 * (fs.length : Int) < 0) := by omega
      clear hg9 ho58 ho38 hc8 ho5 ho35 hb7 hb57 hb47 hb8 hb58 hb5 hb35 hbel8 hb4 hb3 hb2 hb1
      go_wp2_with fail
      refine (eq_strings _ _ _ _ (Rd1.of_own ho59) (Rd1.of_own ho39)).mono ?_
      rintro e w10 ⟨rfl, n10, rfl⟩
      go_wp2_with fail
      have hlen : (L.map fun s => s.data.toList).length = L.length := by simp
      refine (mark_strings u2 1 L.length _ _ _ (by omega) (own_drewN ho59 n10)).mono ?_
      rintro e w11 ⟨rfl, ho11, hg11⟩
      have hbel11 : Below w.heap.size w w11 := (below_drewN (n := n10) hbel9).grown hg11 hbel9.size (fun k hk => by have := (hv2 k hk).1; have := hbel3.size; omega)
      have hne : u1.ownBlock = none ∨ u1.ownBlock ≠ u2.ownBlock := by
        cases h2 : u2.ownBlock with
        | none => cases u1.ownBlock <;> simp
        | some k => exact not_own ho39 fun k' hk' => by have := (hv1 k' hk').2; have := (hv2 k h2).1; omega
      have ho1 := (own_drewN ho39 n10).kept hg11 hne
      clear hg11 ho59 ho39 hne
      go_wp2_with fail
      refine (held_strings u2 1 L.length _ (by omega) (Rd1.of_own ho11) (fun b hb => (ho11.lt b hb).2)).mono ?_
      rintro e w12 ⟨rfl, hb12⟩
      have ho12 := own_below ho11 hb12
      have ho1' := own_below ho1 hb12
      have hbel12 := hbel11.trans (hb12.mono hbel11.size)
      have hz1 : ((1 : Int) + (L.length : Int) != 1 + (L.length : Int)) = false := by simp
      have hz2 : ¬ ((1 : Int) + (L.length : Int) < 0) := by omega
      have hF12 := HF.out.below (Nat.le_refl _) hbel12
      clear ho1 ho11 hb12
      go_wp2_with fail
      refine (to_fields v fs _ hF12 hn).mono ?_
      rintro e w13 ⟨rfl, hc13, hb13⟩
      have hR13 := hc13.row hmx
      go_wp2_with fail
      refine (impl_all _ fs s _ hR13 HOK2.out (by omega) HS.out).mono ?_
      rintro e w14 ⟨u3, rfl, ho14, hb14⟩
      have hb124 := hb13.trans (hb14.mono hb13.size)
      have hbel14 := hbel12.trans (hb124.mono hbel12.size)
      have ho12' := own_below ho12 hb124
      have ho1'' := own_below ho1' hb124
      rw [sV_map, HL.out] at ho14
      clear ho12 ho1' hb13 hb14 hb124 hc13 hR13
      go_wp2_with fail
      refine (eq_strings _ _ _ _ (Rd1.of_own ho14) (Rd1.of_own ho1'')).mono ?_
      rintro e w15 ⟨rfl, n15, rfl⟩
      go_wp2_with fail
      refine (held_strings u2 1 L.length _ (by omega) ((Rd1.of_own ho12').drewN n15) (fun b hb => (ho12'.lt b hb).2)).mono ?_
      rintro e w16 ⟨rfl, hb16⟩
      have hbel16 := (below_drewN hbel14).trans (hb16.mono hbel14.size)
      go_wp2
      go_ret
      exact ⟨rfl, hbel16⟩

namespace Lw
theorem fnExactFldAll (w : World) (v : Value) (fs : List Fd) (hF : FRow w v fs) (hok : FOk fs maxLen) (s : ByteArray) (hs : s.size ≤ maxLen) :
    Calls Try.prog 3 #[v, .string s] w fun e w' => e = .returned (.bool true) ∧ Below w.heap.size w w' := law_all v fs s w hF hok hs
end Lw
end Go.Proofs.Ytahbnclangfkaaa

/- The law on places that mean the same, over drawn inputs. -/
import Derived.Test.YthmljebpjohibaaDoorCan9
import Derived.Test.YthmljebpjohibaaDoorCanP
import Derived.Test.YthmljebpjohibaaDoorDrawU
import Derived.Test.YthmljebpjohibaaDoorGdOk
namespace Go.Proofs.YthmljebpjohibaaDoor
open Go.RowKit

theorem same_none : canV none = .tuple #[.string ⟨#[]⟩, .bool false] := rfl
theorem same_some (c : List UInt8) : canV (some c) = .tuple #[.string ⟨c.toArray⟩, .bool true] := rfl

set_option maxRecDepth 100000 in
set_option maxHeartbeats 3200000 in
theorem law_urisame (a : Option Addr) (len cap : Nat) (zs : List Int) (a2 : Option Addr) (len2 cap2 : Nat) (zs2 : List Int) (w : World) (h : IsRow .u8 w a len cap zs) (h2 : IsRow .u8 w a2 len2 cap2 zs2) (hcls : Cls w) :
    Calls Tryd.prog 5 #[.slice a len cap, .slice a2 len2 cap2] w fun e w' => e = .returned (.bool true) ∧ Below w.heap.size w w' := by
  have hl := isrow_len h
  have hl2 := isrow_len h2
  by_cases hbig : 1048576 < len
  · clear hcls h h2
    go_enter Tryd.func5, Tryd.ntmps5
    go_wp2_with fail
    go_ret
    exact ⟨rfl, Below.refl _ _⟩
  · by_cases hbig2 : 1048576 < len2
    · clear hcls h h2
      go_enter Tryd.func5, Tryd.ntmps5
      go_wp2_with fail
      go_ret
      exact ⟨rfl, Below.refl _ _⟩
    · have c1 := draw_uri a len cap zs w h
      have HC : Hid (∀ W, Below w.heap.size w W → Cls W) := Lib.hid (fun W hW => hcls.below hW (Nat.le_refl _))
      have H2 : Hid (∀ W, Below w.heap.size w W → IsRow .u8 W a2 len2 cap2 zs2) := Lib.hid (fun W hW => isrow_below h2 hW)
      clear hcls h h2
      go_enter Tryd.func5, Tryd.ntmps5
      go_wp2_with fail
      refine c1.mono ?_
      rintro e w1 ⟨s, rfl, hs, hb1⟩
      clear c1
      have c1 := draw_uri a2 len2 cap2 zs2 w1 (H2.out w1 hb1)
      go_wp2_with fail
      refine c1.mono ?_
      rintro e w2 ⟨t, rfl, ht, hb⟩
      have hb2 := hb1.trans (hb.mono hb1.size)
      clear hb c1
      have c2 := impl_canon s w2 (by omega) (HC.out w2 hb2)
      have c3 := fun W hW => impl_canon t W (by omega) (HC.out W hW)
      have c4 := fun W => impl_means s W (by omega)
      have c5 := fun W => spec_means s W (by omega)
      have c6 := fun W => impl_means t W (by omega)
      have hsame : ∀ c d, canonL s.data.toList = some c → canonL t.data.toList = some d → (meansL s.data.toList == meansL t.data.toList) = (c == d) := fun c d h1 h2 => canon_same h1 h2
      generalize canonL s.data.toList = R1 at *
      generalize canonL t.data.toList = R2 at *
      unfold strV at c4 c5 c6
      rw [← toList_mk (meansL s.data.toList), ← toList_mk (meansL t.data.toList)] at hsame
      generalize ByteArray.mk (meansL s.data.toList).toArray = ms at *
      generalize ByteArray.mk (meansL t.data.toList).toArray = mt at *
      have tail : ∀ W, Below w.heap.size w W → Calls Tryd.prog 13 #[] W fun e w' => e = .returned (.bool true) ∧ W = w' := fun W hW => gd_ok W (HC.out W hW)
      cases R1 with
      | none =>
        rw [same_none] at c2
        clear hsame c6
        obtain ⟨v0, v1, hv⟩ : ∃ v0 v1, canV R2 = .tuple #[.string v0, .bool v1] := ⟨_, _, rfl⟩
        rw [hv] at c3
        clear hv
        go_wp2_with fail
        refine c2.mono ?_
        rintro e w3 ⟨rfl, hb⟩
        have hb3 := hb2.trans (hb.mono hb2.size)
        clear hb c2
        go_wp2_with fail
        refine (c3 _ hb3).mono ?_
        rintro e w4 ⟨rfl, hb⟩
        have hb4 := hb3.trans (hb.mono hb3.size)
        clear hb c3
        go_wp2_with fail
        refine (c4 _).mono ?_
        rintro e w5 ⟨rfl, hb⟩
        have hb5 := hb4.trans (hb.mono hb4.size)
        clear hb c4
        go_wp2_with fail
        refine (c5 _).mono ?_
        rintro e w6 ⟨rfl, hb⟩
        have hb6 := hb5.trans (hb.mono hb5.size)
        clear hb c5
        go_wp2_with fail
        refine (tail _ hb6).mono ?_
        rintro e w7 ⟨rfl, rfl⟩
        clear tail
        go_wp2
        go_ret
        exact ⟨rfl, hb6⟩
      | some c =>
        rw [same_some] at c2
        cases R2 with
        | none =>
          rw [same_none] at c3
          clear hsame c6
          generalize ByteArray.mk c.toArray = cs at *
          go_wp2_with fail
          refine c2.mono ?_
          rintro e w3 ⟨rfl, hb⟩
          have hb3 := hb2.trans (hb.mono hb2.size)
          clear hb c2
          go_wp2_with fail
          refine (c3 _ hb3).mono ?_
          rintro e w4 ⟨rfl, hb⟩
          have hb4 := hb3.trans (hb.mono hb3.size)
          clear hb c3
          go_wp2_with fail
          refine (c4 _).mono ?_
          rintro e w5 ⟨rfl, hb⟩
          have hb5 := hb4.trans (hb.mono hb4.size)
          clear hb c4
          go_wp2_with fail
          refine (c5 _).mono ?_
          rintro e w6 ⟨rfl, hb⟩
          have hb6 := hb5.trans (hb.mono hb5.size)
          clear hb c5
          go_wp2_with fail
          refine (tail _ hb6).mono ?_
          rintro e w7 ⟨rfl, rfl⟩
          clear tail
          go_wp2
          go_ret
          exact ⟨rfl, hb6⟩
        | some d =>
          rw [same_some] at c3
          have hs2 := hsame c d rfl rfl
          rw [← toList_mk c, ← toList_mk d] at hs2
          clear hsame tail
          generalize ByteArray.mk c.toArray = cs at *
          generalize ByteArray.mk d.toArray = ds at *
          have HS := Lib.hid hs2; clear hs2
          go_wp2_with fail
          refine c2.mono ?_
          rintro e w3 ⟨rfl, hb⟩
          have hb3 := hb2.trans (hb.mono hb2.size)
          clear hb c2
          go_wp2_with fail
          refine (c3 _ hb3).mono ?_
          rintro e w4 ⟨rfl, hb⟩
          have hb4 := hb3.trans (hb.mono hb3.size)
          clear hb c3
          go_wp2_with fail
          refine (c4 _).mono ?_
          rintro e w5 ⟨rfl, hb⟩
          have hb5 := hb4.trans (hb.mono hb4.size)
          clear hb
          go_wp2_with fail
          refine (c5 _).mono ?_
          rintro e w6 ⟨rfl, hb⟩
          have hb6 := hb5.trans (hb.mono hb5.size)
          clear hb c5
          go_wp2_with fail
          refine (c4 _).mono ?_
          rintro e w7 ⟨rfl, hb⟩
          have hb7 := hb6.trans (hb.mono hb6.size)
          clear hb c4
          go_wp2_with fail
          refine (c6 _).mono ?_
          rintro e w8 ⟨rfl, hb⟩
          have hb8 := hb7.trans (hb.mono hb7.size)
          clear hb c6
          go_wp2
          go_ret
          refine ⟨congrArg (fun b => Ending.returned (Value.bool b)) ?_, hb8⟩
          show ((ms.toList == mt.toList) == (cs.toList == ds.toList)) = true
          rw [HS.out]; simp
namespace Lw
theorem fnUriSame (w : World) (hL : laidMetH Tryd.prog Rows.fnUriSameRow.laid w) (a : Option Addr) (len cap : Nat) (zs : List Int) (h : IsRow .u8 w a len cap zs) (a2 : Option Addr) (len2 cap2 : Nat) (zs2 : List Int) (h2 : IsRow .u8 w a2 len2 cap2 zs2) :
    Calls Tryd.prog 5 #[.slice a len cap, .slice a2 len2 cap2] w fun e w' => e = .returned (.bool true) ∧ Below w.heap.size w w' :=
  law_urisame a len cap zs a2 len2 cap2 zs2 w h h2 (cls_of_head hL)
end Lw
end Go.Proofs.YthmljebpjohibaaDoor

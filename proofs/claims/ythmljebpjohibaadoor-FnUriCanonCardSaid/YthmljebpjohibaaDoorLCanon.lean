/- The law on the plainest form of a place, over drawn inputs. -/
import Derived.Test.YthmljebpjohibaaDoorCan9
import Derived.Test.YthmljebpjohibaaDoorCanP
import Derived.Test.YthmljebpjohibaaDoorDrawU
import Derived.Test.YthmljebpjohibaaDoorGdOk
namespace Go.Proofs.YthmljebpjohibaaDoor
open Go.RowKit

theorem segs_at {ps : List (List UInt8)} {k : Nat} (h : segsOk (ps.drop k) = true) (hk : k < ps.length) : ((ps[k] == [46]) = false ∧ (ps[k] == [46, 46]) = false) ∧ ((ps[k] == []) = true → ¬ k + 1 < ps.length) ∧ segsOk (ps.drop (k + 1)) = true := by
  rw [List.drop_eq_getElem_cons hk] at h
  generalize ps[k] = p at *
  cases hd : ps.drop (k + 1) with
  | nil =>
    rw [hd, segs_last] at h
    have hl : ¬ k + 1 < ps.length := fun h2 => by rw [List.drop_eq_getElem_cons h2] at hd; cases hd
    have h2 : isDots p = false := by simpa using h
    unfold isDots at h2
    rw [Bool.or_eq_false_iff] at h2
    exact ⟨h2, fun _ => hl, rfl⟩
  | cons q r =>
    rw [hd, segs_more, Bool.and_eq_true, Bool.and_eq_true] at h
    obtain ⟨⟨h1, h2⟩, h3⟩ := h
    have h4 : isDots p = false := by simpa using h1
    unfold isDots at h4
    rw [Bool.or_eq_false_iff] at h4
    refine ⟨h4, fun he => ?_, h3⟩
    rw [beq_iff_eq] at he
    rw [he] at h2; cases h2

theorem canV_none : canV none = .tuple #[.string ⟨#[]⟩, .bool false] := rfl
theorem canV_some (c : List UInt8) : canV (some c) = .tuple #[.string ⟨c.toArray⟩, .bool true] := rfl
theorem size_mk (l : List UInt8) : (ByteArray.mk l.toArray).size = l.length := by rw [size_len]

set_option maxRecDepth 100000 in
set_option maxHeartbeats 3200000 in
theorem law_uricanon (a : Option Addr) (len cap : Nat) (zs : List Int) (w : World) (h : IsRow .u8 w a len cap zs) (hcls : Cls w) :
    Calls Tryd.prog 4 #[.slice a len cap] w fun e w' => e = .returned (.bool true) ∧ Below w.heap.size w w' := by
  have hl := isrow_len h
  by_cases hbig : 1048576 < len
  · clear hcls h
    go_enter Tryd.func4, Tryd.ntmps4
    go_wp2_with fail
    go_ret
    exact ⟨rfl, Below.refl _ _⟩
  · have c1 := draw_uri a len cap zs w h
    clear h
    have HC : Hid (∀ W, Below w.heap.size w W → Cls W) := Lib.hid (fun W hW => hcls.below hW (Nat.le_refl _))
    clear hcls
    go_enter Tryd.func4, Tryd.ntmps4
    go_wp2_with fail
    refine c1.mono ?_
    rintro e w1 ⟨s, rfl, hs, hb1⟩
    clear c1
    have c2 := impl_canon s w1 (by omega) (HC.out w1 hb1)
    have c3 := fun W => spec_canon s W (by omega)
    cases hR : canonL s.data.toList with
    | none =>
      rw [hR, canV_none] at c2 c3
      clear hR
      go_wp2_with fail
      refine c2.mono ?_
      rintro e w2 ⟨rfl, hb⟩
      have hb2 := hb1.trans (hb.mono hb1.size)
      clear hb
      go_wp2_with fail
      refine (c3 _).mono ?_
      rintro e w3 ⟨rfl, hb⟩
      have hb3 := hb2.trans (hb.mono hb2.size)
      clear hb c2 c3
      have c4 := gd_ok w3 (HC.out w3 hb3)
      go_wp2_with fail
      refine c4.mono ?_
      rintro e w4 ⟨rfl, rfl⟩
      go_wp2
      go_ret
      exact ⟨rfl, hb3⟩
    | some c =>
      rw [hR, canV_some] at c2 c3
      obtain ⟨f1, f2, f3, o, f4, f5, f6, _⟩ := canon_form hR
      have f7 := canon_means hR
      clear hR
      have hcs : (ByteArray.mk c.toArray).size ≤ 40 := by rw [size_mk]; exact f2
      have hcl : (ByteArray.mk c.toArray).size ≤ s.size := by rw [size_mk, size_len]; exact f1
      have hol : (ByteArray.mk (47 :: o).toArray).size ≤ 40 := by
        rw [size_mk, ← f4]; unfold pathL; have := (cutL_len c 63).1; omega
      have c4 := fun W hW => impl_canon ⟨c.toArray⟩ W (by omega) (HC.out W hW)
      have c5 := fun W => impl_means ⟨c.toArray⟩ W (by omega)
      have c6 := fun W => impl_means s W (by omega)
      have c7 := fun W => impl_path ⟨c.toArray⟩ W (by omega)
      have c8 := fun W => spec_parts ⟨(47 :: o).toArray⟩ 47 W (by omega)
      simp only at c4 c5 c7 c8
      rw [f3, canV_some] at c4
      rw [f7] at c5
      rw [f4] at c7
      rw [show (47 :: o : List UInt8) = [] ++ 47 :: o from rfl, partsL_app _ _ (by simp)] at c8
      simp only [List.nil_append] at c8
      have hpl : (partsL o 47).length ≤ o.length + 1 := partsL_len _ _
      rw [size_mk] at hol
      have hps : Hid (segsOk (([] :: partsL o 47).drop 1) = true) := Lib.hid (by rw [List.drop_one, List.tail_cons]; exact f6)
      obtain ⟨ps, hpsd⟩ : ∃ ps, ps = ([] :: partsL o 47 : List (List UInt8)) := ⟨_, rfl⟩
      have hp0 : ∃ h0 : 0 < ps.length, ps[0] = [] := by subst hpsd; exact ⟨by simp, rfl⟩
      have hp1 : 1 < ps.length := by
        subst hpsd
        have := partsL_ne o 47
        cases hq : partsL o 47 with
        | nil => exact absurd hq this
        | cons x y => simp
      have hpm : ps.length ≤ 100 := by subst hpsd; simp at hol ⊢; omega
      rw [← hpsd] at c8 hps
      unfold strV at c5 c6 c7
      generalize meansL s.data.toList = ms at c5 c6
      clear f1 f2 f3 f4 f5 f6 f7 hpl hpsd hol
      generalize ByteArray.mk c.toArray = cs at *
      generalize ByteArray.mk (47 :: o).toArray = os at *
      generalize ByteArray.mk ms.toArray = mb at *
      go_wp2_with fail
      refine c2.mono ?_
      rintro e w2 ⟨rfl, hb⟩
      have hb2 := hb1.trans (hb.mono hb1.size)
      clear hb
      go_wp2_with fail
      refine (c3 _).mono ?_
      rintro e w3 ⟨rfl, hb⟩
      have hb3 := hb2.trans (hb.mono hb2.size)
      clear hb c2 c3
      go_wp2_with fail
      refine (c4 _ hb3).mono ?_
      rintro e w4 ⟨rfl, hb⟩
      have hb4 := hb3.trans (hb.mono hb3.size)
      clear hb c4
      go_wp2_with fail
      refine (c5 _).mono ?_
      rintro e w5 ⟨rfl, hb⟩
      have hb5 := hb4.trans (hb.mono hb4.size)
      clear hb c5
      go_wp2_with fail
      refine (c6 _).mono ?_
      rintro e w6 ⟨rfl, hb⟩
      have hb6 := hb5.trans (hb.mono hb5.size)
      clear hb c6
      go_wp2_with fail
      refine (c7 _).mono ?_
      rintro e w7 ⟨rfl, hb⟩
      have hb7 := hb6.trans (hb.mono hb6.size)
      clear hb c7
      go_wp2_with fail
      refine (c8 _).mono ?_
      rintro e w8 ⟨v, rfl, hown, hb⟩
      have hb8 := hb7.trans (hb.mono hb7.size)
      clear hb c8 hb1 hb2 hb3 hb4 hb5 hb6 hb7
      obtain ⟨g, cap', rfl⟩ := own_form hown (by omega)
      have hmax := own_max hown
      have HH : Hid (∀ j (hj : j < ps.length), w8.cell? ⟨g, j, none⟩ = some (.string ⟨(ps[j]).toArray⟩)) := Lib.hid (fun j hj => own_cell hown (u := strV ps[j]) (by simp [hj]))
      clear hown
      go_wp2_with fail
      go_loop [11] (fun i => ∃ k : Nat, 1 ≤ k ∧ k ≤ ps.length ∧ i = .int .i64 k ∧ Hid (segsOk (ps.drop k) = true)) (fun i => ps.length - (intOf i).toNat)
      case atStart => exact ⟨1, Nat.le_refl _, by omega, rfl, hps⟩
      case round =>
        clear hps
        obtain ⟨k, hk1, hk, rfl, HR⟩ := hrel
        by_cases hlt : k < ps.length
        · have hc := HH.out k hlt
          obtain ⟨⟨b1, b2⟩, b3, hnx⟩ := segs_at HR.out hlt
          have HN := Lib.hid hnx
          clear hnx HR
          generalize ps[k] = p at *
          obtain ⟨q, hq⟩ : ∃ q : ByteArray, q = ⟨p.toArray⟩ := ⟨_, rfl⟩
          have hqp : q.toList = p := by rw [hq, Lib.toList_data]
          rw [← hq] at hc
          rw [← hqp] at b1 b2 b3
          clear hq hqp
          cases b4 : (q.toList == []) with
          | true =>
            have hl := b3 b4
            clear b3
            go_wp2
            go_round
            case rel => exact ⟨k + 1, by omega, by omega, by go_num, HN⟩
            case measure => simp [intOf]; omega
          | false =>
            clear b3
            go_wp2
            go_round
            case rel => exact ⟨k + 1, by omega, by omega, by go_num, HN⟩
            case measure => simp [intOf]; omega
        · obtain ⟨h0, h00⟩ := hp0
          have hc := HH.out 0 h0
          rw [h00] at hc
          clear h00 HR
          go_wp2
          go_ret
          exact ⟨congrArg (fun b => Ending.returned (Value.bool b)) (decide_eq_true (by omega)), hb8⟩
namespace Lw
theorem fnUriCanon (w : World) (hL : laidMetH Tryd.prog Rows.fnUriCanonRow.laid w) (a : Option Addr) (len cap : Nat) (zs : List Int) (h : IsRow .u8 w a len cap zs) :
    Calls Tryd.prog 4 #[.slice a len cap] w fun e w' => e = .returned (.bool true) ∧ Below w.heap.size w w' :=
  law_uricanon a len cap zs w h (cls_of_head hL)
end Lw
end Go.Proofs.YthmljebpjohibaaDoor

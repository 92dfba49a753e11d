/- The law on a house less, over drawn inputs. -/
import Derived.Test.YtojmfcpkmknleaaDoorCfDr
import Derived.Test.YtojmfcpkmknleaaDoorCfgI4
import Derived.Test.YtojmfcpkmknleaaDoorCfgS5
import Derived.Test.YtojmfcpkmknleaaDoorLaid
namespace Go.Proofs.YtojmfcpkmknleaaDoor
open Go.RowKit Go.Maps

theorem HRow.take {w : World} {a : Option Addr} {c : Nat} {hs : List Hs} (h : HRow w (.slice a hs.length c) hs) {k : Nat} (hk : k ≤ hs.length) : HRow w (.slice a k c) (hs.take k) := by
  obtain ⟨a', c', e, h1, h2, h3⟩ := h
  obtain ⟨rfl, rfl⟩ : a = a' ∧ c = c' := by simpa using e
  refine ⟨a, c, by rw [List.length_take]; congr 1; omega, by rw [List.length_take]; omega, h2, fun j x hj => ?_⟩
  rw [List.getElem?_take] at hj
  split at hj
  · exact h3 j x hj
  · cases hj
theorem cfg_take {hs : List Hs} (h : cfgB hs = true) {k : Nat} (h1 : 1 ≤ k) (h2 : k ≤ hs.length) : cfgB (hs.take k) = true := by
  rw [cfgB_iff] at h ⊢
  obtain ⟨⟨a, b⟩, c, d⟩ := h
  refine ⟨by rw [List.length_take]; omega, fun x hx => c x (List.mem_of_mem_take hx), ?_⟩
  have e : namesL hs = namesL (hs.take k) ++ namesL (hs.drop k) := by
    unfold namesL; rw [← List.flatMap_append, List.take_append_drop]
  rw [e] at d
  exact (List.nodup_append.1 d).1
theorem route_take {hs : List Hs} {m : Nat} {s : ByteArray} (h : cfgB hs = true) (hn : hs.length = m + 1) (hm : 1 ≤ m) :
    cfgB (hs.take m) = true ∧ (routeI hs s = (m : Int) → routeI (hs.take m) s = -1) ∧ (routeI hs s ≠ (m : Int) → routeI (hs.take m) s = routeI hs s) := by
  have ht := cfg_take h hm (by omega)
  refine ⟨ht, ?_⟩
  unfold routeI
  rw [if_pos h, if_pos ht]
  have hf : findI hs s = (findI (hs.take m) s).or ((findI (hs.drop m) s).map (· + (hs.take m).length)) := by
    unfold findI
    rw [← List.findIdx?_append, List.take_append_drop]
  have hl : (hs.take m).length = m := by rw [List.length_take]; omega
  rw [hl] at hf
  cases ha : findI (hs.take m) s with
  | some i =>
    have hi : i < m := by
      unfold findI at ha
      have := (List.findIdx?_eq_some_iff_getElem.1 ha).1
      omega
    rw [ha] at hf
    simp only [Option.some_or] at hf
    rw [hf]
    exact ⟨fun e => by simp [optI] at e; omega, fun _ => rfl⟩
  | none =>
    rw [ha] at hf
    simp only [Option.none_or] at hf
    cases hb : findI (hs.drop m) s with
    | none => rw [hb] at hf; rw [hf]; exact ⟨fun _ => rfl, fun _ => rfl⟩
    | some i =>
      have hi : i < (hs.drop m).length := by
        unfold findI at hb
        exact (List.findIdx?_eq_some_iff_getElem.1 hb).1
      rw [List.length_drop] at hi
      have : i = 0 := by omega
      subst this
      rw [hb] at hf
      rw [hf]
      exact ⟨fun _ => rfl, fun e => absurd (by simp [optI]) e⟩
theorem hoks3 {hs : List Hs} (h : ∀ x ∈ hs, HSm3 x) {K : Nat} (hK : 40 ≤ K) : HOks hs K := fun x hx s hs => Nat.le_trans ((h x hx).1 s hs) hK
theorem route_lo (hs : List Hs) (s : ByteArray) : -1 ≤ routeI hs s := by
  unfold routeI
  split
  · unfold optI; split <;> omega
  · omega

set_option maxRecDepth 100000 in
set_option maxHeartbeats 3200000 in
theorem law_cfgless (a : Option Addr) (len cap : Nat) (zs : List Int) (w : World) (ha : IsRow .u8 w a len cap zs) (hcls : Cls w) :
    Calls Tryd.prog 5 #[.slice a len cap] w fun e w' => e = .returned (.bool true) ∧ Below w.heap.size w w' := by
  have hl := isrow_len ha
  by_cases hbig : 1048576 < len
  · clear hcls ha
    go_enter Tryd.func5, Tryd.ntmps5
    go_wp2_with fail
    go_ret
    exact ⟨rfl, Below.refl _ _⟩
  have c1 := draw_route a len cap zs w ha
  have HX : Hid (∀ W, Below w.heap.size w W → Cls W) := Lib.hid fun W hW => hcls.below hW (Nat.le_refl _)
  clear ha hcls
  go_enter Tryd.func5, Tryd.ntmps5
  go_wp2_with fail
  refine c1.mono ?_
  rintro e w1 ⟨hs, a', c', s, rfl, hrow, hok, hl5, hss, hb1⟩
  clear c1
  obtain ⟨w2, hw2⟩ : ∃ w2, w2 = w1.alloc (.cells #[.slice a' hs.length c'] 25) := ⟨_, rfl⟩
  have hb12 : Below w1.heap.size w1 w2 := by rw [hw2]; exact (Below.refl _ _).alloc (Nat.le_refl _) _
  have hx2 : w2.heap[w1.heap.size]? = some (.cells #[.slice a' hs.length c'] 25 (0, 0)) := by rw [hw2]; exact heap_alloc_new w1 _
  have hs2 : w2.heap.size = w1.heap.size + 1 := by rw [hw2]; simp
  have hb02 := hb1.trans (hb12.mono hb1.size)
  have hr2 := hrow.below (Nat.le_refl _) hb12
  have hN := hoks3 hok (K := 1048576) (by decide)
  have hs1 := hb1.size
  have hcap : hs.length ≤ c' ∧ c' ≤ 9223372036854775807 := by
    obtain ⟨x, y, e, h1, h2, _⟩ := hrow
    obtain ⟨rfl, rfl⟩ : a' = x ∧ c' = y := by simpa using e
    exact ⟨h1, h2⟩
  obtain ⟨R, hR⟩ : ∃ R, R = routeI hs s := ⟨_, rfl⟩
  have hall : ∀ W, Below w2.heap.size w2 W → Below w.heap.size w W ∧ Cls W ∧ W.heap[w1.heap.size]? = some (.cells #[.slice a' hs.length c'] 25 (0, 0)) ∧ HRow W (.slice a' hs.length c') hs ∧
      Calls Tryd.prog 10 #[.agg #[.slice a' hs.length c'], .string s] W (fun e w' => e = .returned (.int .i64 R) ∧ Below W.heap.size W w') ∧
      Calls Tryd.prog 11 #[.agg #[.slice a' hs.length c'], .string s] W (fun e w' => e = .returned (.int .i64 R) ∧ Below W.heap.size W w') ∧
      Calls Tryd.prog 13 #[.agg #[.slice a' hs.length c']] W (fun e w' => e = .returned (.bool (cfgB hs)) ∧ Below W.heap.size W w') := fun W hW => by
    have h0 := hb02.trans (hW.mono hb02.size)
    have hH := hr2.below (Nat.le_refl _) hW
    have hc := HX.out W h0
    rw [hR]
    exact ⟨h0, hc, (hW.block w1.heap.size (by omega)).trans hx2, hH, impl_route hs _ s W hH hN (by unfold maxLen; omega) hc, spec_route hs _ s W hH hN, spec_cfgok hs _ W hH hN⟩
  have HA := Lib.hid hall
  have HR0 := Lib.hid hR
  clear hR
  obtain ⟨_, _, _, _, c2, _, _⟩ := hall w2 (Below.refl _ _)
  obtain ⟨x0, _⟩ := one_factC hx2
  rw [hw2] at x0
  have HW2 := Lib.hid hw2
  have HB02 := Lib.hid hb02
  clear hw2 hb12 hx2 hb02 hr2 hrow hall hb1
  have er : (R != R) = false := by simp
  go_wp2_with fail
  rw [← HW2.out]
  refine c2.mono ?_
  rintro e w3 ⟨rfl, hb3⟩
  obtain ⟨_, _, hx3, _, _, c3, _⟩ := HA.out w3 hb3
  have HB3 := Lib.hid hb3
  have hs3 := hb3.size
  clear c2 x0 hb3
  obtain ⟨x0, _⟩ := one_factC hx3
  clear hx3
  go_wp2_with fail
  refine c3.mono ?_
  rintro e w4 ⟨rfl, hb4⟩
  have hb24 := HB3.out.trans (hb4.mono hs3)
  obtain ⟨_, _, hx4, _, _, _, c4⟩ := HA.out w4 hb24
  have HB4 := Lib.hid hb24
  have hs4 := hb24.size
  clear c3 x0 hb4 hb24
  obtain ⟨x0, _⟩ := one_factC hx4
  clear hx4
  go_wp2_with fail
  refine c4.mono ?_
  rintro e w5 ⟨rfl, hb5⟩
  have hb25 := HB4.out.trans (hb5.mono hs4)
  obtain ⟨hfin, hc5, hx5, hr5, _, _, _⟩ := HA.out w5 hb25
  have HB5 := Lib.hid hb25
  have hs5 := hb25.size
  clear c4 x0 hb5 hb25
  obtain ⟨x0, _⟩ := one_factC hx5
  have hG := gd_ok w5 hc5
  cases hcb : cfgB hs
  · clear hx5 hr5 hc5
    go_wp2_with fail
    refine hG.mono ?_
    rintro e w6 ⟨rfl, rfl⟩
    clear hG
    go_wp2
    go_ret
    exact ⟨rfl, hfin⟩
  · by_cases h2 : hs.length < 2
    · have h2i : (hs.length : Int) < 2 := by omega
      have h2d : decide ((hs.length : Int) < 2) = true := decide_eq_true h2i
      clear hx5 hr5 hc5
      go_wp2_with fail
      refine hG.mono ?_
      rintro e w6 ⟨rfl, rfl⟩
      clear hG
      go_wp2
      go_ret
      exact ⟨rfl, hfin⟩
    · clear hG
      obtain ⟨m, hm⟩ : ∃ m, hs.length = m + 1 := ⟨hs.length - 1, by omega⟩
      obtain ⟨t1, t2, t3⟩ := route_take (s := s) hcb hm (by omega)
      rw [← HR0.out] at t2 t3
      obtain ⟨w6, hw6⟩ : ∃ w6, w6 = w5.alloc (.cells #[.slice a' m c'] 25) := ⟨_, rfl⟩
      have hb56 : Below w5.heap.size w5 w6 := by rw [hw6]; exact (Below.refl _ _).alloc (Nat.le_refl _) _
      have hx6 : w6.heap[w5.heap.size]? = some (.cells #[.slice a' m c'] 25 (0, 0)) := by rw [hw6]; exact heap_alloc_new w5 _
      have hs6 : w6.heap.size = w5.heap.size + 1 := by rw [hw6]; simp
      have hr6 : HRow w6 (.slice a' m c') (hs.take m) := (hr5.take (by omega)).below (Nat.le_refl _) hb56
      have hN6 : HOks (hs.take m) 1048576 := fun x hx => hN x (List.mem_of_mem_take hx)
      have hb26 := HB5.out.trans (hb56.mono hs5)
      have hall2 : ∀ W, Below w6.heap.size w6 W → Below w.heap.size w W ∧ W.heap[w1.heap.size]? = some (.cells #[.slice a' hs.length c'] 25 (0, 0)) ∧ W.heap[w5.heap.size]? = some (.cells #[.slice a' m c'] 25 (0, 0)) ∧
          Calls Tryd.prog 10 #[.agg #[.slice a' m c'], .string s] W (fun e w' => e = .returned (.int .i64 (routeI (hs.take m) s)) ∧ Below W.heap.size W w') ∧
          Calls Tryd.prog 12 #[.agg #[.slice a' m c']] W (fun e w' => e = .returned (.bool true) ∧ Below W.heap.size W w') := fun W hW => by
        obtain ⟨h0, hc, hx, _⟩ := HA.out W (hb26.trans (hW.mono hb26.size))
        have hH := hr6.below (Nat.le_refl _) hW
        have c := impl_cfgok (hs.take m) _ W hH hN6 hc
        rw [t1] at c
        exact ⟨h0, hx, (hW.block w5.heap.size (by omega)).trans hx6, impl_route (hs.take m) _ s W hH hN6 (by unfold maxLen; omega) hc, c⟩
      have HA2 := Lib.hid hall2
      obtain ⟨_, _, _, _, c6⟩ := hall2 w6 (Below.refl _ _)
      obtain ⟨y0, _⟩ := one_factC hx6
      rw [hw6] at y0
      have HW6 := Lib.hid hw6
      have h2d : decide ((hs.length : Int) < 2) = false := decide_eq_false (by omega)
      rw [hm] at x0 h2d hcap
      clear hx5 hr5 hc5 hw6 hb56 hx6 hr6 hN6 hb26 hall2 t1
      rw [hm]
      have hmc : m ≤ c' := by omega
      have hmi : (m : Int) ≤ (c' : Int) := by omega
      have hc0 : ¬ c' = 0 := by omega
      go_wp2_with fail
      rw [← HW6.out]
      refine c6.mono ?_
      rintro e w7 ⟨rfl, hb7⟩
      obtain ⟨_, hx7, hy7, c7, _⟩ := HA2.out w7 hb7
      have HB7 := Lib.hid hb7
      have hs7 := hb7.size
      clear c6 x0 y0 hb7
      obtain ⟨x0, _⟩ := one_factC hx7
      obtain ⟨y0, _⟩ := one_factC hy7
      rw [hm] at x0
      clear hx7 hy7
      by_cases e1 : R = (m : Int)
      · have b1 : (R == (m : Int)) = true := by simp [e1]
        rw [t2 e1] at c7
        clear t2 t3 e1
        go_wp2_with fail
        refine c7.mono ?_
        rintro e w8 ⟨rfl, hb8⟩
        have hfin8 := (HA2.out w8 (HB7.out.trans (hb8.mono hs7))).1
        clear c7
        go_wp2
        go_ret
        exact ⟨rfl, hfin8⟩
      · have b1 : (R == (m : Int)) = false := by simp [e1]
        have b2 : (R == R) = true := by simp
        rw [t3 e1] at c7
        clear t2 t3 e1
        go_wp2_with fail
        refine c7.mono ?_
        rintro e w8 ⟨rfl, hb8⟩
        have hfin8 := (HA2.out w8 (HB7.out.trans (hb8.mono hs7))).1
        clear c7
        go_wp2
        go_ret
        exact ⟨rfl, hfin8⟩
namespace Lw
theorem fnCfgLess (w : World) (hL : laidMetH Tryd.prog Rows.fnCfgLessRow.laid w) (a : Option Addr) (len cap : Nat) (zs : List Int) (h : IsRow .u8 w a len cap zs) :
    Calls Tryd.prog 5 #[.slice a len cap] w fun e w' => e = .returned (.bool true) ∧ Below w.heap.size w w' := by
  exact law_cfgless a len cap zs w h (cls_of_head hL)
end Lw
end Go.Proofs.YtojmfcpkmknleaaDoor

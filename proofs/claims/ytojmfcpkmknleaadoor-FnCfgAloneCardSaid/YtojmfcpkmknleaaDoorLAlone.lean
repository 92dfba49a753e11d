/- The law on one house alone, over drawn inputs. -/
import Derived.Test.YtojmfcpkmknleaaDoorCfGd
import Derived.Test.YtojmfcpkmknleaaDoorLaid
import Derived.Deep.RegionHeld3
import Derived.Deep.DeepCutAuto
namespace Go.Proofs.YtojmfcpkmknleaaDoor
open Go.RowKit Go.Maps

set_option maxRecDepth 100000 in
set_option maxHeartbeats 6400000 in
theorem law_cfgal (a : Option Addr) (len cap : Nat) (zs : List Int) (w : World) (ha : IsRow .u8 w a len cap zs) (hcls : Cls w) :
    Calls Tryd.prog 4 #[.slice a len cap] w fun e w' => e = .returned (.bool true) ∧ Below w.heap.size w w' := by
  have hl := isrow_len ha
  by_cases hbig : 1048576 < len
  · clear hcls ha
    go_enter Tryd.func4, Tryd.ntmps4
    go_wp2_with fail
    go_ret
    exact ⟨rfl, Below.refl _ _⟩
  have c1 := draw_alone a len cap zs w ha
  have HX : Hid (∀ W, Below w.heap.size w W → Cls W) := Lib.hid fun W hW => hcls.below hW (Nat.le_refl _)
  clear ha hcls
  go_enter Tryd.func4, Tryd.ntmps4
  go_wp2_with fail
  refine c1.mono ?_
  rintro e w1 ⟨hs, a', c', r, rfl, hrow, hok, hl5, hr5, hb1⟩
  clear c1
  obtain ⟨kk, hkk⟩ : ∃ kk : Int, kk = (r : Int) - 1 := ⟨_, rfl⟩
  have hk1 : -1 ≤ kk ∧ kk ≤ 3 := by omega
  rw [← hkk]
  clear hkk hr5
  obtain ⟨w2, hw2⟩ : ∃ w2, w2 = w1.alloc (.cells #[.slice a' hs.length c'] 25) := ⟨_, rfl⟩
  have hb12 : Below w1.heap.size w1 w2 := by rw [hw2]; exact (Below.refl _ _).alloc (Nat.le_refl _) _
  have hx2 : w2.heap[w1.heap.size]? = some (.cells #[.slice a' hs.length c'] 25 (0, 0)) := by rw [hw2]; exact heap_alloc_new w1 _
  have hs2 : w2.heap.size = w1.heap.size + 1 := by rw [hw2]; simp
  have hb02 := hb1.trans (hb12.mono hb1.size)
  have hr2 := hrow.below (Nat.le_refl _) hb12
  have hN := hoks3C hok (K := 1048576) (by decide)
  have hs1 := hb1.size
  have hall : ∀ W, Below w2.heap.size w2 W → Below w.heap.size w W ∧ Cls W ∧ W.heap[w1.heap.size]? = some (.cells #[.slice a' hs.length c'] 25 (0, 0)) ∧ HRow W (.slice a' hs.length c') hs ∧
      Calls Tryd.prog 13 #[.agg #[.slice a' hs.length c']] W (fun e w' => e = .returned (.bool (cfgB hs)) ∧ Below W.heap.size W w') ∧
      Calls Tryd.prog 18 #[.agg #[.slice a' hs.length c'], .int .i64 kk] W (fun e w' => ∃ u, e = .returned (.agg #[u]) ∧ HRow w' u (aloneL hs kk) ∧ Below W.heap.size W w') := fun W hW => by
    have h0 := hb02.trans (hW.mono hb02.size)
    have hH := hr2.below (Nat.le_refl _) hW
    have hc := HX.out W h0
    exact ⟨h0, hc, (hW.block w1.heap.size (by omega)).trans hx2, hH, spec_cfgok hs _ W hH hN, spec_alone hs _ kk W hH hN⟩
  have HA := Lib.hid hall
  obtain ⟨_, hc2, _⟩ := hall w2 (Below.refl _ _)
  have c2 := impl_alone hs _ kk w2 hr2 hN hc2
  obtain ⟨x0, _⟩ := one_factC hx2
  rw [hw2] at x0
  have HW2 := Lib.hid hw2
  clear hw2 hb12 hx2 hb02 hr2 hrow hall hb1 hN hc2
  go_wp2_with fail
  rw [← HW2.out]
  refine c2.mono ?_
  rintro e w3 ⟨u, rfl, hal, hb3⟩
  clear c2 x0
  have hxr := hal.row
  obtain ⟨a5, c5, eu, _⟩ : ∃ a5 c5, u = .slice a5 (aloneL hs kk).length c5 ∧ True := by
    obtain ⟨a5, c5, e, _⟩ := hxr
    exact ⟨a5, c5, e, trivial⟩
  obtain ⟨L, hL⟩ : ∃ L, L = aloneL hs kk := ⟨_, rfl⟩
  rw [← hL] at eu hxr
  subst eu
  obtain ⟨w4, hw4⟩ : ∃ w4, w4 = w3.alloc (.cells #[.slice a5 L.length c5] 25) := ⟨_, rfl⟩
  have hb34 : Below w3.heap.size w3 w4 := by rw [hw4]; exact (Below.refl _ _).alloc (Nat.le_refl _) _
  have hx4 : w4.heap[w3.heap.size]? = some (.cells #[.slice a5 L.length c5] 25 (0, 0)) := by rw [hw4]; exact heap_alloc_new w3 _
  have hs4 : w4.heap.size = w3.heap.size + 1 := by rw [hw4]; simp
  have hb24 := hb3.trans (hb34.mono hb3.size)
  have hxr4 := hxr.below (Nat.le_refl _) hb34
  have hs3 := hb3.size
  have hLs : ∀ h ∈ L, HSm3 h := fun h hh => by
    rw [hL] at hh
    unfold aloneL at hh
    split at hh
    · rename_i hc
      rw [List.mem_singleton.1 hh]
      obtain ⟨hlt, hge⟩ : kk.toNat < hs.length ∧ True := ⟨by omega, trivial⟩
      rw [hget_at (List.getElem?_eq_getElem hlt)]
      exact hok _ (List.getElem_mem hlt)
    · cases hh
  have hNL := hoks3C hLs (K := 1048576) (by decide)
  have hall2 : ∀ W, Below w4.heap.size w4 W → Below w2.heap.size w2 W ∧ W.heap[w3.heap.size]? = some (.cells #[.slice a5 L.length c5] 25 (0, 0)) ∧ HRow W (.slice a5 L.length c5) L ∧
      (∀ v, HRow W v L → Calls Tryd.prog 17 #[.agg #[.slice a5 L.length c5], .agg #[v]] W fun e w' => e = .returned (.bool true) ∧ Below W.heap.size W w') ∧
      (∀ x : ByteArray, x.size ≤ 40 → Calls Tryd.prog 10 #[.agg #[.slice a5 L.length c5], .string x] W fun e w' => e = .returned (.int .i64 (routeI L x)) ∧ Below W.heap.size W w') ∧
      Calls Tryd.prog 12 #[.agg #[.slice a5 L.length c5]] W (fun e w' => e = .returned (.bool (cfgB L)) ∧ Below W.heap.size W w') := fun W hW => by
    have h2 := hb24.trans (hW.mono hb24.size)
    have hH := hxr4.below (Nat.le_refl _) hW
    have hc := (HA.out W h2).2.1
    exact ⟨h2, (hW.block w3.heap.size (by omega)).trans hx4, hH, fun v hv => gd_cfgS _ v L W hH hv, fun x hx => impl_route L _ x W hH hNL (by unfold maxLen; omega) hc, impl_cfgok L _ W hH hNL hc⟩
  have HA2 := Lib.hid hall2
  have hbx1 : w1.heap.size < w4.heap.size := by omega
  have hSx : ∀ W, Below w4.heap.size w4 W → W.cell? ⟨w3.heap.size, 0, none⟩ = some (.slice a5 L.length c5) ∧ W.cell? ⟨w1.heap.size, 0, none⟩ = some (.slice a' hs.length c') := fun W hW => by
    obtain ⟨h2, hx, _⟩ := hall2 W hW
    exact ⟨(one_factC hx).1, (one_factC (HA.out W h2).2.2.1).1⟩
  have hCA : ∀ W, Below w4.heap.size w4 W → Calls Tryd.prog 18 #[.agg #[.slice a' hs.length c'], .int .i64 kk] W (fun e w' => ∃ u, e = .returned (.agg #[u]) ∧ HRow w' u L ∧ Below W.heap.size W w') := fun W hW => by
    rw [hL]; exact (HA.out W (hall2 W hW).1).2.2.2.2.2
  have HS := Lib.hid hSx
  have HCA := Lib.hid hCA
  have HL := Lib.hid hL
  obtain ⟨y0, y1⟩ := hSx w4 (Below.refl _ _)
  rw [hw4] at y0 y1
  have HW4 := Lib.hid hw4
  clear hw4 hb34 hx4 hb24 hxr4 hxr hal hall2 hSx hCA hL hNL hLs hb3
  go_wp2_with fail
  rw [← HW4.out]
  clear y0 y1
  go_region_held3 (fun W => W.cell? ⟨w3.heap.size, 0, none⟩ = some (.slice a5 L.length c5) ∧ W.cell? ⟨w1.heap.size, 0, none⟩ = some (.slice a' hs.length c'))
    (first | exact HS.out _ (Below.refl _ _).drew | exact hS1 | exact hS2)
    (first
      | (go_at_call 18; refine (HCA.out _ (Below.refl _ _).drew).mono ?_; rintro e w5 ⟨v5, rfl, hv5, hb5⟩; have hb5 := below_drew_left hb5; have hS1 := HS.out _ hb5)
      | (go_at_call 17; refine ((HA2.out w5 hb5).2.2.2.1 v5 hv5).mono ?_; rintro e w6 ⟨rfl, hb6⟩; have hb46 := hb5.trans (hb6.mono hb5.size); have hS2 := HS.out _ hb46))
  have HB46 := Lib.hid hb46
  have hs46 := hb46.size
  obtain ⟨x0, y0⟩ := hS2
  have c7 := (HA.out w6 (HA2.out w6 hb46).1).2.2.2.2.1
  clear hb5 hS1 hb6 hb46 hv5 HCA
  go_wp2_with fail
  refine c7.mono ?_
  rintro e w7 ⟨rfl, hb7⟩
  have hb47 := HB46.out.trans (hb7.mono hs46)
  clear c7 x0 y0 hb7 hs46
  obtain ⟨y0, x0⟩ := HS.out w7 hb47
  obtain ⟨hfin, hc7, _⟩ := HA.out w7 (HA2.out w7 hb47).1
  have HB7 := Lib.hid hb47
  have hs47 := hb47.size
  clear hb47
  by_cases hgood : cfgB hs = true ∧ 0 ≤ kk ∧ kk < hs.length
  · obtain ⟨hcb, hk0, hkn⟩ := hgood
    obtain ⟨k, rfl⟩ := Int.eq_ofNat_of_zero_le hk0
    have hkl : k < hs.length := by omega
    obtain ⟨h, hgk⟩ : ∃ h, hs[k]? = some h := ⟨_, List.getElem?_eq_getElem hkl⟩
    have hL1 : L = [h] := by rw [HL.out]; exact (by unfold aloneL; rw [if_pos ⟨hcb, hk0, hkn⟩, Int.toNat_natCast, hget_at hgk])
    clear HL
    subst hL1
    have hc1 := cfg_one hcb hgk
    have HSg : Hid (∀ W, Below w4.heap.size w4 W → W.cell? ⟨w3.heap.size, 0, none⟩ = some (.slice a5 1 c5) ∧ W.cell? ⟨w1.heap.size, 0, none⟩ = some (.slice a' hs.length c')) := Lib.hid fun W hW => HS.out W hW
    have HAg : Hid (∀ W, Below w4.heap.size w4 W → Below w.heap.size w W ∧ HRow W (.slice a5 1 c5) [h] ∧ HRow W (.slice a' hs.length c') hs ∧
        (∀ x : ByteArray, x.size ≤ 40 → Calls Tryd.prog 10 #[.agg #[.slice a5 1 c5], .string x] W fun e w' => e = .returned (.int .i64 (routeI [h] x)) ∧ Below W.heap.size W w') ∧
        Calls Tryd.prog 12 #[.agg #[.slice a5 1 c5]] W (fun e w' => e = .returned (.bool true) ∧ Below W.heap.size W w')) := Lib.hid fun W hW => by
      obtain ⟨h2, _, q1, _, q2, q3⟩ := HA2.out W hW
      obtain ⟨h0, _, _, q4, _⟩ := HA.out W h2
      rw [hc1] at q3
      exact ⟨h0, q1, q4, q2, q3⟩
    have hd0 : decide ((k : Int) < 0) = false := decide_eq_false (by omega)
    have hd1 : decide ((hs.length : Int) ≤ (k : Int)) = false := decide_eq_false (by omega)
    have hd2 : decide (hs.length ≤ k) = false := decide_eq_false (by omega)
    have hd3 : ¬ hs.length ≤ k := by omega
    rw [hcb]
    clear HS HA2 HA hc7 hk1 hfin
    obtain ⟨y0, x0⟩ := HSg.out w7 HB7.out
    go_wp2_with fail
    go_loopw [6, 7] (fun iv jv wr => ∃ i : Nat, i ≤ hs.length ∧ iv = .int .i64 i ∧ Below w4.heap.size w4 wr) (fun iv _ _ => hs.length - (intOf iv).toNat)
    case atStart => exact ⟨0, Nat.zero_le _, rfl, HB7.out⟩
    case round =>
      obtain ⟨i, hi, rfl, hbr⟩ := hrel
      obtain ⟨wo, rfl⟩ : ∃ wo, wo = wr := ⟨_, rfl⟩
      obtain ⟨hfin, hH1, hHr, _, _⟩ := HAg.out wo hbr
      obtain ⟨y0, x0⟩ := HSg.out wo hbr
      have HBr := Lib.hid hbr
      have hszr := hbr.size
      by_cases hlt : i < hs.length
      · obtain ⟨gh, hg⟩ : ∃ gh, hs[i]? = some gh := ⟨_, List.getElem?_eq_getElem hlt⟩
        obtain ⟨ax, cx, ex, hle1, hle2, hat⟩ := hHr
        obtain ⟨rfl, rfl⟩ : a' = ax ∧ c' = cx := by simpa using ex
        obtain ⟨b, o, u', ea, hbl, d1, hS, _⟩ := hat i gh hg
        subst ea
        obtain ⟨a2, c2', rfl, hn1, hn2, hnat⟩ := hS
        have hok3 := hok gh (List.mem_of_getElem? hg)
        have hlti : (i : Int) < (hs.length : Int) := by omega
        have hfacts : ∀ W, Below wo.heap.size wo W → W.cell? ⟨w3.heap.size, 0, none⟩ = some (.slice a5 1 c5) ∧ W.cell? ⟨w1.heap.size, 0, none⟩ = some (.slice (some ⟨b, o, none⟩) hs.length c') ∧ W.cell? ⟨b, o + i * 4, none⟩ = some (.slice a2 gh.names.length c2') := fun W hW => by
          obtain ⟨z0, z1⟩ := HSg.out W (HBr.out.trans (hW.mono hszr))
          exact ⟨z0, z1, (hW.cell (p := ⟨b, o + i * 4, none⟩) hbl).trans d1⟩
        have HFa := Lib.hid hfacts
        have hnl : gh.names.length ≤ 3 := hok3.2.2
        have HNat := Lib.hid hnat
        have HG := Lib.hid hg
        have HGk := Lib.hid hgk
        have HCb := Lib.hid hcb
        clear hat hfacts hbr hfin hnat hg ex hH1 hgk hcb
        go_wp2_with fail
        go_loopw [7] (fun jv wr => ∃ j : Nat, j ≤ gh.names.length ∧ jv = .int .i64 j ∧ Below wo.heap.size wo wr) (fun jv _ => gh.names.length - (intOf jv).toNat)
        case atStart => exact ⟨0, Nat.zero_le _, rfl, Below.refl _ _⟩
        case round =>
          obtain ⟨j, hj, rfl, hbq⟩ := hrel
          obtain ⟨y0, x0, d1⟩ := HFa.out wr hbq
          have HBq := Lib.hid hbq
          by_cases hjl : j < gh.names.length
          · obtain ⟨x, hgx⟩ : ∃ x, gh.names[j]? = some x := ⟨_, List.getElem?_eq_getElem hjl⟩
            obtain ⟨b2, o2, ea2, hb2l, q1⟩ := HNat.out j x hgx
            subst ea2
            have hxm := List.mem_of_getElem? hgx
            have hxz : x.size ≤ 40 := hok3.1 x hxm
            have hro := alone_route HCb.out HGk.out HG.out hxm
            obtain ⟨Q, hQ⟩ : ∃ Q, Q = routeI [h] x := ⟨_, rfl⟩
            rw [← hQ] at hro
            have er : ((Q == 0) != ((i : Int) == (k : Int))) = false := by rw [hro]; simp
            have er2 : (!(Q == 0) == ((i : Int) == (k : Int))) = false := by rw [hro]; cases ((i : Int) == (k : Int)) <;> rfl
            have hS0 : ∀ W, Below wr.heap.size wr W → W.cell? ⟨w3.heap.size, 0, none⟩ = some (.slice a5 1 c5) ∧ W.cell? ⟨w1.heap.size, 0, none⟩ = some (.slice (some ⟨b, o, none⟩) hs.length c') ∧ W.cell? ⟨b, o + i * 4, none⟩ = some (.slice (some ⟨b2, o2, none⟩) gh.names.length c2') ∧ W.cell? ⟨b2, o2 + j, none⟩ = some (.string x) := fun W hW => by
              have hb := HBq.out.trans (hW.mono HBq.out.size)
              obtain ⟨z0, z1, z2⟩ := HFa.out W hb
              exact ⟨z0, z1, z2, (hb.cell (p := ⟨b2, o2 + j, none⟩) hb2l).trans q1⟩
            have hC0 : ∀ W, Below wr.heap.size wr W → Calls Tryd.prog 10 #[.agg #[.slice a5 1 c5], .string x] W (fun e w' => e = .returned (.int .i64 Q) ∧ Below W.heap.size W w') := fun W hW => by
              have hb := HBr.out.trans ((HBq.out.trans (hW.mono HBq.out.size)).mono hszr)
              rw [hQ]; exact (HAg.out W hb).2.2.2.1 x hxz
            have HS0 := Lib.hid hS0
            have q2 := (hS0 wr (Below.refl _ _)).2.2.2
            have hji : (j : Int) < (gh.names.length : Int) := by omega
            have HQ := Lib.hid hQ
            clear hbq hgx hS0 hxm q1 hro hQ
            go_upto_region 15 with fail
            go_region_held3 (fun W => W.cell? ⟨w3.heap.size, 0, none⟩ = some (.slice a5 1 c5) ∧ W.cell? ⟨w1.heap.size, 0, none⟩ = some (.slice (some ⟨b, o, none⟩) hs.length c') ∧ W.cell? ⟨b, o + i * 4, none⟩ = some (.slice (some ⟨b2, o2, none⟩) gh.names.length c2') ∧ W.cell? ⟨b2, o2 + j, none⟩ = some (.string x))
              (first | exact HS0.out _ (Below.refl _ _).drew | exact hS1) (first | (go_at_call 10; refine (hC0 _ (Below.refl _ _).drew).mono ?_; rintro e w8 ⟨rfl, hb8⟩; have hb8 := below_drew_left hb8; have hS1 := HS0.out _ hb8))
            have HB9 := Lib.hid (HBq.out.trans (hb8.mono HBq.out.size))
            clear hb8 hS1
            go_wp2
            go_roundw
            case rel => exact ⟨j + 1, by omega, by go_num, HB9.out⟩
            case measure => simp [intOf]; omega
          · have hje : j = gh.names.length := by omega
            subst hje
            have HB9 := Lib.hid (HBr.out.trans (hbq.mono hszr))
            clear hbq
            go_wp2
            go_roundw
            case rel => exact ⟨i + 1, by omega, by go_num, HB9.out⟩
            case measure => simp [intOf]; omega
      · have hie : i = hs.length := by omega
        subst hie
        obtain ⟨ax, cx, ex, hle1, hle2, hat⟩ := hHr
        obtain ⟨rfl, rfl⟩ : a' = ax ∧ c' = cx := by simpa using ex
        obtain ⟨b, o, u', ea, hbl, _, _, d1, _⟩ := hat k h hgk
        subst ea
        obtain ⟨ay, cy, ey, hle3, hle4, hat2⟩ := hH1
        obtain ⟨rfl, rfl⟩ : a5 = ay ∧ c5 = cy := by simpa using ey
        obtain ⟨b5, o5, u5, ea5, hbl5, _, _, d2, _⟩ := hat2 0 h rfl
        subst ea5
        rw [Nat.zero_mul, Nat.add_zero] at d2
        have hS0 : ∀ W, Below wo.heap.size wo W → W.cell? ⟨w3.heap.size, 0, none⟩ = some (.slice (some ⟨b5, o5, none⟩) 1 c5) ∧ W.cell? ⟨w1.heap.size, 0, none⟩ = some (.slice (some ⟨b, o, none⟩) hs.length c') ∧ W.cell? ⟨b5, o5 + 1, none⟩ = some (.int .i64 h.key) ∧ W.cell? ⟨b, o + k * 4 + 1, none⟩ = some (.int .i64 h.key) := fun W hW => by
          obtain ⟨z0, z1⟩ := HSg.out W (HBr.out.trans (hW.mono hszr))
          exact ⟨z0, z1, (hW.cell (p := ⟨b5, o5 + 1, none⟩) hbl5).trans d2, (hW.cell (p := ⟨b, o + k * 4 + 1, none⟩) hbl).trans d1⟩
        have hC0 : ∀ W, Below wo.heap.size wo W → Calls Tryd.prog 12 #[.agg #[.slice (some ⟨b5, o5, none⟩) 1 c5]] W (fun e w' => e = .returned (.bool true) ∧ Below W.heap.size W w') := fun W hW =>
          (HAg.out W (HBr.out.trans (hW.mono hszr))).2.2.2.2
        have HS0 := Lib.hid hS0
        have HC0 := Lib.hid hC0
        have ek : (h.key == h.key) = true := by simp
        have hki : (k : Int) < (hs.length : Int) := by omega
        clear hbr hfin hat hat2 ex ey hS0 hC0 hgk hcb hc1
        go_upto_region 17 with fail
        go_region_held3 (fun W => W.cell? ⟨w3.heap.size, 0, none⟩ = some (.slice (some ⟨b5, o5, none⟩) 1 c5) ∧ W.cell? ⟨w1.heap.size, 0, none⟩ = some (.slice (some ⟨b, o, none⟩) hs.length c') ∧ W.cell? ⟨b5, o5 + 1, none⟩ = some (.int .i64 h.key) ∧ W.cell? ⟨b, o + k * 4 + 1, none⟩ = some (.int .i64 h.key))
          (first | exact HS0.out _ (Below.refl _ _).drew | exact hS1) (first | (go_at_call 12; refine (HC0.out _ (Below.refl _ _).drew).mono ?_; rintro e w8 ⟨rfl, hb8⟩; have hb8 := below_drew_left hb8; have hS1 := HS0.out _ hb8))
        have HB9 := Lib.hid (HAg.out w8 (HBr.out.trans (hb8.mono hszr))).1
        clear hb8 hS1
        go_wp2
        go_ret
        exact ⟨rfl, HB9.out⟩
  · have hL0 : L = [] := by rw [HL.out]; exact (by unfold aloneL; rw [if_neg hgood])
    clear HL
    subst hL0
    have hG := gd_ok w7 hc7
    have y0' : w7.cell? ⟨w3.heap.size, 0, none⟩ = some (.slice a5 0 c5) := y0
    have HFin := Lib.hid hfin
    clear HS HA2 HA hc7 hfin y0
    cases hcb : cfgB hs
    · go_wp2_with fail
      refine hG.mono ?_
      rintro e w8 ⟨rfl, rfl⟩
      clear hG
      go_wp2
      go_ret
      exact ⟨rfl, HFin.out⟩
    · by_cases hk0 : kk < 0
      · have hd0 : decide (kk < 0) = true := decide_eq_true hk0
        go_wp2_with fail
        refine hG.mono ?_
        rintro e w8 ⟨rfl, rfl⟩
        clear hG
        go_wp2
        go_ret
        exact ⟨rfl, HFin.out⟩
      · have hd0 : decide (kk < 0) = false := decide_eq_false hk0
        have hd1 : (hs.length : Int) ≤ kk := by
          by_cases e : kk < hs.length
          · exact absurd ⟨hcb, by omega, e⟩ hgood
          · omega
        have hd2 : decide ((hs.length : Int) ≤ kk) = true := decide_eq_true hd1
        go_wp2_with fail
        refine hG.mono ?_
        rintro e w8 ⟨rfl, rfl⟩
        clear hG
        go_wp2
        go_ret
        exact ⟨rfl, HFin.out⟩
namespace Lw
theorem fnCfgAlone (w : World) (hL : laidMetH Tryd.prog Rows.fnCfgAloneRow.laid w) (a : Option Addr) (len cap : Nat) (zs : List Int) (h : IsRow .u8 w a len cap zs) :
    Calls Tryd.prog 4 #[.slice a len cap] w fun e w' => e = .returned (.bool true) ∧ Below w.heap.size w w' := by
  exact law_cfgal a len cap zs w h (cls_of_head hL)
end Lw
end Go.Proofs.YtojmfcpkmknleaaDoor

/- The law on the house of a name, over drawn inputs. -/
import Derived.Test.YtojmfcpkmknleaaDoorCfPu
import Derived.Test.YtojmfcpkmknleaaDoorLaid
import Derived.Deep.RegionHeld3
namespace Go.Proofs.YtojmfcpkmknleaaDoor
open Go.RowKit Go.Maps

set_option maxRecDepth 100000 in
set_option maxHeartbeats 6400000 in
theorem law_cfgrt (a : Option Addr) (len cap : Nat) (zs : List Int) (w : World) (ha : IsRow .u8 w a len cap zs) (hcls : Cls w) :
    Calls Tryd.prog 3 #[.slice a len cap] w fun e w' => e = .returned (.bool true) ∧ Below w.heap.size w w' := by
  have hl := isrow_len ha
  by_cases hbig : 1048576 < len
  · clear hcls ha
    go_enter Tryd.func3, Tryd.ntmps3
    go_wp2_with fail
    go_ret
    exact ⟨rfl, Below.refl _ _⟩
  have c1 := draw_route a len cap zs w ha
  have HX : Hid (∀ W, Below w.heap.size w W → Cls W) := Lib.hid fun W hW => hcls.below hW (Nat.le_refl _)
  clear ha hcls
  go_enter Tryd.func3, Tryd.ntmps3
  go_wp2_with fail
  refine c1.mono ?_
  rintro e w1 ⟨hs, a', c', s, rfl, hrow, hok, hl5, hss, hb1⟩
  clear c1
  obtain ⟨w2, hw2⟩ : ∃ w2, w2 = w1.alloc (.cells #[.slice a' hs.length c'] 25) := ⟨_, rfl⟩
  have hb12 : Below w1.heap.size w1 w2 := by rw [hw2]; exact (Below.refl _ _).alloc (Nat.le_refl _) _
  have hx2 : w2.heap[w1.heap.size]? = some (.cells #[.slice a' hs.length c'] 25 (0, 0)) := by rw [hw2]; exact heap_alloc_new w1 _
  have hs2 : w2.heap.size = w1.heap.size + 1 := by rw [hw2]; simp
  have hb02 := hb1.trans (hb12.mono hb1.size)
  have hr2 := hrow.below (Nat.le_refl _) hb12
  have hN := hoks3C hok (K := 1048576) (by decide)
  have hs1 := hb1.size
  obtain ⟨R, hR⟩ : ∃ R, R = routeI hs s := ⟨_, rfl⟩
  obtain ⟨ok, hOk⟩ : ∃ ok, ok = cfgB hs := ⟨_, rfl⟩
  have hall : ∀ W, Below w2.heap.size w2 W → Below w.heap.size w W ∧ Cls W ∧ W.heap[w1.heap.size]? = some (.cells #[.slice a' hs.length c'] 25 (0, 0)) ∧ HRow W (.slice a' hs.length c') hs ∧
      (∀ x : ByteArray, x.size ≤ 40 → Calls Tryd.prog 10 #[.agg #[.slice a' hs.length c'], .string x] W (fun e w' => e = .returned (.int .i64 (routeI hs x)) ∧ Below W.heap.size W w')) ∧
      Calls Tryd.prog 11 #[.agg #[.slice a' hs.length c'], .string s] W (fun e w' => e = .returned (.int .i64 R) ∧ Below W.heap.size W w') ∧
      Calls Tryd.prog 12 #[.agg #[.slice a' hs.length c']] W (fun e w' => e = .returned (.bool ok) ∧ Below W.heap.size W w') ∧
      Calls Tryd.prog 13 #[.agg #[.slice a' hs.length c']] W (fun e w' => e = .returned (.bool ok) ∧ Below W.heap.size W w') := fun W hW => by
    have h0 := hb02.trans (hW.mono hb02.size)
    have hH := hr2.below (Nat.le_refl _) hW
    have hc := HX.out W h0
    rw [hR, hOk]
    exact ⟨h0, hc, (hW.block w1.heap.size (by omega)).trans hx2, hH, fun x hx => impl_route hs _ x W hH hN (by unfold maxLen; omega) hc, spec_route hs _ s W hH hN, impl_cfgok hs _ W hH hN hc, spec_cfgok hs _ W hH hN⟩
  have HA := Lib.hid hall
  obtain ⟨_, _, _, _, c2, _, _⟩ := hall w2 (Below.refl _ _)
  have c2 := c2 s (by omega)
  rw [← hR] at c2
  obtain ⟨x0, _⟩ := one_factC hx2
  rw [hw2] at x0
  have HW2 := Lib.hid hw2
  have HR := Lib.hid hR
  have HOk := Lib.hid hOk
  clear hw2 hb12 hx2 hb02 hr2 hrow hall hb1 hR hOk hN
  go_wp2_with fail
  rw [← HW2.out]
  refine c2.mono ?_
  rintro e w3 ⟨rfl, hb3⟩
  clear c2 x0
  go_wp2_with fail
  refine wp_region_last (by kernel_rfl) 11 (by kernel_rfl) (by kernel_rfl) (by kernel_rfl)
    (fun u => { tmps := #[.slice a len cap, undef, .bool false, .pointer (some ⟨w1.heap.size, 0, none⟩), .string s, .int .i64 R, undef, undef, undef, undef, .slice a len cap, .int .i64 (len : Int), .bool (decide ((1048576 : Int) < (len : Int))), .tuple #[.agg #[.slice a' hs.length c'], .string s], .slice a len cap, .tuple #[.agg #[.slice a' hs.length c'], .string s], .agg #[.slice a' hs.length c'], .string s, .agg #[.slice a' hs.length c'], .string s, .int .i64 R, u 0, u 1, u 2, u 3, u 4, u 5, u 6, u 7, u 8, u 9, u 10, u 11, undef, undef, undef, undef, undef, undef, undef, undef, undef, undef, undef, undef, undef, undef, undef, undef, undef, undef, undef, undef, undef, undef, undef, undef, undef, undef, undef, undef, undef, undef, undef, undef, undef, undef, undef, undef, undef, undef, undef, undef, undef, undef, undef, undef, undef, undef, undef, undef, undef, undef, undef, undef, undef, undef, undef, undef, undef, undef, undef, undef, undef, undef, undef, undef, undef, undef, undef, undef, undef, undef, undef, undef, undef, undef, undef, undef, undef, undef, undef, undef, undef, undef, undef, undef, undef, undef, undef], defers := [] })
    (fun _ W => Below w2.heap.size w2 W)
    (RAt [REq (.int .i64 R), REq (.agg #[.slice a' hs.length c']), REq (.string s), REq (.int .i64 R), REq (.bool false), REq (.bool false), REq (.agg #[.slice a' hs.length c']), REq (.bool ok), REq (.agg #[.slice a' hs.length c']), REq (.bool ok), REq (.bool false)])
    (fun _ _ => True) (fun _ => undef) hb3.drew
    (fun i v w w' hi hR _ => blind_atC (by intro R hR; simp only [List.mem_cons, List.not_mem_nil, or_false] at hR; rcases hR with rfl | rfl | rfl | rfl | rfl | rfl | rfl | rfl | rfl | rfl | rfl <;> exact blind_eqC _) hR) ?_ ?_
  · intro i hi u w4 kk hkk hC hd
    match i, hi with
    | 0, _ =>
      refine wpOp_step rfl (fun K hK => ?_)
      clear hd
      go_simp
      exact hK _ _ ⟨_, rfl, rfl, trivial, hC⟩
    | 1, _ =>
      obtain ⟨_, _, hx, _, _, cR, cI, cS⟩ := HA.out w4 hC
      obtain ⟨x0, _⟩ := one_factC hx
      refine wpOp_step rfl (fun K hK => ?_)
      clear hd
      go_simp
      exact hK _ _ ⟨_, rfl, rfl, trivial, hC⟩
    | 2, _ =>
      refine wpOp_step rfl (fun K hK => ?_)
      clear hd
      go_simp
      exact hK _ _ ⟨_, rfl, rfl, trivial, hC⟩
    | 3, _ =>
      obtain ⟨_, _, hx, _, _, cR, cI, cS⟩ := HA.out w4 hC
      obtain ⟨x0, _⟩ := one_factC hx
      have e1 : u 1 = .agg #[.slice a' hs.length c'] := hd 1 (dep_of (by kernel_rfl))
      have e2 : u 2 = .string s := hd 2 (dep_of (by kernel_rfl))
      refine wpOp_step rfl (fun K hK => ?_)
      clear hd
      go_simp
      refine cR.mono ?_
      rintro e w5 ⟨rfl, hb5⟩
      exact hK _ _ ⟨_, by simp [upd, e1, e2], rfl, trivial, hC.trans (hb5.mono hC.size)⟩
    | 4, _ =>
      have e0 : u 0 = .int .i64 R := hd 0 (dep_of (by kernel_rfl))
      have e3 : u 3 = .int .i64 R := hd 3 (dep_of (by kernel_rfl))
      have er : (R != R) = false := by simp
      refine wpOp_step rfl (fun K hK => ?_)
      clear hd
      go_simp
      exact hK _ _ ⟨_, by simp [upd, e0, e3], rfl, trivial, hC⟩
    | 5, _ =>
      have e4 : u 4 = .bool false := hd 4 (dep_of (by kernel_rfl))
      refine wpOp_step rfl (fun K hK => ?_)
      clear hd
      go_simp
      exact hK _ _ ⟨_, by simp [upd, e4], rfl, trivial, hC⟩
    | 6, _ =>
      obtain ⟨_, _, hx, _, _, cR, cI, cS⟩ := HA.out w4 hC
      obtain ⟨x0, _⟩ := one_factC hx
      have e5 : u 5 = .bool false := hd 5 (dep_of (by kernel_rfl))
      refine wpOp_step rfl (fun K hK => ?_)
      clear hd
      go_simp
      exact hK _ _ ⟨_, by simp [upd, e5], rfl, trivial, hC⟩
    | 7, _ =>
      obtain ⟨_, _, hx, _, _, cR, cI, cS⟩ := HA.out w4 hC
      obtain ⟨x0, _⟩ := one_factC hx
      have e5 : u 5 = .bool false := hd 5 (dep_of (by kernel_rfl))
      have e6 : u 6 = .agg #[.slice a' hs.length c'] := hd 6 (dep_of (by kernel_rfl))
      refine wpOp_step rfl (fun K hK => ?_)
      clear hd
      go_simp
      refine cI.mono ?_
      rintro e w5 ⟨rfl, hb5⟩
      exact hK _ _ ⟨_, by simp [upd, e5, e6], rfl, trivial, hC.trans (hb5.mono hC.size)⟩
    | 8, _ =>
      obtain ⟨_, _, hx, _, _, cR, cI, cS⟩ := HA.out w4 hC
      obtain ⟨x0, _⟩ := one_factC hx
      have e5 : u 5 = .bool false := hd 5 (dep_of (by kernel_rfl))
      refine wpOp_step rfl (fun K hK => ?_)
      clear hd
      go_simp
      exact hK _ _ ⟨_, by simp [upd, e5], rfl, trivial, hC⟩
    | 9, _ =>
      obtain ⟨_, _, hx, _, _, cR, cI, cS⟩ := HA.out w4 hC
      obtain ⟨x0, _⟩ := one_factC hx
      have e5 : u 5 = .bool false := hd 5 (dep_of (by kernel_rfl))
      have e8 : u 8 = .agg #[.slice a' hs.length c'] := hd 8 (dep_of (by kernel_rfl))
      refine wpOp_step rfl (fun K hK => ?_)
      clear hd
      go_simp
      refine cS.mono ?_
      rintro e w5 ⟨rfl, hb5⟩
      exact hK _ _ ⟨_, by simp [upd, e5, e8], rfl, trivial, hC.trans (hb5.mono hC.size)⟩
    | 10, _ =>
      have e5 : u 5 = .bool false := hd 5 (dep_of (by kernel_rfl))
      have e7 : u 7 = .bool ok := hd 7 (dep_of (by kernel_rfl))
      have e9 : u 9 = .bool ok := hd 9 (dep_of (by kernel_rfl))
      have er : (ok != ok) = false := by simp
      refine wpOp_step rfl (fun K hK => ?_)
      clear hd
      go_simp
      exact hK _ _ ⟨_, by simp [upd, e5, e7, e9], rfl, trivial, hC⟩
  · intro u w4 kk hkk hC hd
    have e5 : u 5 = .bool false := hd 5 (by decide)
    have e10 : u 10 = .bool false := hd 10 (by decide)
    refine wpOp_step rfl (fun K hK => ?_)
    clear hd
    go_simp
    refine hK _ _ ?_
    clear hK K e5 e10 hb3
    obtain ⟨_, _, hx, _, _, _, _, c5⟩ := HA.out w4 hC
    obtain ⟨x0, _⟩ := one_factC hx
    have HB4 := Lib.hid hC
    have hs4 := hC.size
    clear hC hx
    go_wp2_with fail
    refine c5.mono ?_
    rintro e w5 ⟨rfl, hb5⟩
    have hb25 := HB4.out.trans (hb5.mono hs4)
    obtain ⟨hfin, hc5, hx5, _⟩ := HA.out w5 hb25
    have HB5 := Lib.hid hb25
    clear c5 x0 hb5 hb25
    cases ok
    · have hG := gd_ok w5 hc5
      have hRm : R = -1 := by rw [HR.out]; exact route_bad HOk.out.symm
      subst hRm
      clear hx5 hc5
      go_wp2_with fail
      refine hG.mono ?_
      rintro e w6 ⟨rfl, rfl⟩
      clear hG
      go_wp2
      go_ret
      exact ⟨rfl, hfin⟩
    · clear hc5 hx5 hfin
      go_wp2_with fail
      go_loopw [6, 7] (fun iv jv wr => ∃ i : Nat, i ≤ hs.length ∧ iv = .int .i64 i ∧ Below w2.heap.size w2 wr) (fun iv _ _ => hs.length - (intOf iv).toNat)
      case atStart => exact ⟨0, Nat.zero_le _, rfl, HB5.out⟩
      case round =>
        obtain ⟨i, hi, rfl, hbr⟩ := hrel
        obtain ⟨wo, rfl⟩ : ∃ wo, wo = wr := ⟨_, rfl⟩
        obtain ⟨hfin, _, hxr, hHr, _⟩ := HA.out wo hbr
        obtain ⟨x0, _⟩ := one_factC hxr
        have HBr := Lib.hid hbr
        have hszr := hbr.size
        by_cases hlt : i < hs.length
        · obtain ⟨h, hg⟩ : ∃ h, hs[i]? = some h := ⟨_, List.getElem?_eq_getElem hlt⟩
          obtain ⟨ax, cx, ex, hle1, hle2, hat⟩ := hHr
          obtain ⟨rfl, rfl⟩ : a' = ax ∧ c' = cx := by simpa using ex
          obtain ⟨b, o, u', ea, hbl, d1, hS, _⟩ := hat i h hg
          subst ea
          obtain ⟨a2, c2', rfl, hn1, hn2, hnat⟩ := hS
          have hok3 := hok h (List.mem_of_getElem? hg)
          have hlti : (i : Int) < (hs.length : Int) := by omega
          have hbx := (Array.getElem?_eq_some_iff.1 hxr).1
          have hfacts : ∀ W, Below wo.heap.size wo W → W.cell? ⟨w1.heap.size, 0, none⟩ = some (.slice (some ⟨b, o, none⟩) hs.length c') ∧ W.cell? ⟨b, o + i * 4, none⟩ = some (.slice a2 h.names.length c2') := fun W hW =>
            ⟨(hW.cell (p := ⟨w1.heap.size, 0, none⟩) hbx).trans x0, (hW.cell (p := ⟨b, o + i * 4, none⟩) hbl).trans d1⟩
          have HFa := Lib.hid hfacts
          have hnl : h.names.length ≤ 3 := hok3.2.2
          have HNat := Lib.hid hnat
          have HG := Lib.hid hg
          clear hat hfacts hxr hbr hfin hnat hg ex
          go_wp2_with fail
          go_loopw [7] (fun jv wr => ∃ k : Nat, k ≤ h.names.length ∧ jv = .int .i64 k ∧ Below wo.heap.size wo wr) (fun jv _ => h.names.length - (intOf jv).toNat)
          case atStart => exact ⟨0, Nat.zero_le _, rfl, Below.refl _ _⟩
          case round =>
            obtain ⟨k, hk, rfl, hbq⟩ := hrel
            obtain ⟨x0, d1⟩ := HFa.out wr hbq
            have HBq := Lib.hid hbq
            by_cases hkl : k < h.names.length
            · obtain ⟨x, hgx⟩ : ∃ x, h.names[k]? = some x := ⟨_, List.getElem?_eq_getElem hkl⟩
              obtain ⟨b2, o2, ea2, hb2l, q1⟩ := HNat.out k x hgx
              subst ea2
              have hxm := List.mem_of_getElem? hgx
              have hxz : x.size ≤ 40 := hok3.1 x hxm
              have hri : routeI hs x = (i : Int) := route_at HOk.out.symm HG.out hxm
              have hS0 : ∀ W, Below wr.heap.size wr W → W.cell? ⟨w1.heap.size, 0, none⟩ = some (.slice (some ⟨b, o, none⟩) hs.length c') ∧ W.cell? ⟨b, o + i * 4, none⟩ = some (.slice (some ⟨b2, o2, none⟩) h.names.length c2') ∧ W.cell? ⟨b2, o2 + k, none⟩ = some (.string x) := fun W hW => by
                have hb := HBq.out.trans (hW.mono HBq.out.size)
                exact ⟨(HFa.out W hb).1, (HFa.out W hb).2, (hb.cell (p := ⟨b2, o2 + k, none⟩) hb2l).trans q1⟩
              have hC0 : ∀ W, Below wr.heap.size wr W → Calls Tryd.prog 10 #[.agg #[.slice (some ⟨b, o, none⟩) hs.length c'], .string x] W (fun e w' => e = .returned (.int .i64 (i : Int)) ∧ Below W.heap.size W w') := fun W hW => by
                have hb := HBr.out.trans ((HBq.out.trans (hW.mono HBq.out.size)).mono hszr)
                have c := (HA.out W hb).2.2.2.2.1 x hxz
                rw [hri] at c; exact c
              have HS := Lib.hid hS0
              have q2 := (hS0 wr (Below.refl _ _)).2.2
              have hki : (k : Int) < (h.names.length : Int) := by omega
              have er : ((i : Int) != (i : Int)) = false := by simp
              have HQ := Lib.hid q1
              have HXm := Lib.hid hxm
              clear hbq hgx hS0 hxm q1 hri
              by_cases exs : x = s
              · have e1 : (x.toList == s.toList) = true := by rw [exs]; simp
                have hRi : R = (i : Int) := by rw [HR.out, ← exs]; exact route_at HOk.out.symm HG.out HXm.out
                have e2 : (R != (i : Int)) = false := by rw [hRi]; simp
                clear hRi exs
                go_upto_region 15 with fail
                refine wp_region_last (by kernel_rfl) 30 (by kernel_rfl) (by kernel_rfl) (by kernel_rfl)
                  (fun z => { tmps := #[.slice a len cap, undef, u2, .pointer (some ⟨w1.heap.size, 0, none⟩), .string s, .int .i64 R, .int .i64 (i : Int), .int .i64 (k : Int), undef, undef, .slice a len cap, .int .i64 (len : Int), .bool (decide ((1048576 : Int) < (len : Int))), .tuple #[.agg #[.slice (some ⟨b, o, none⟩) hs.length c'], .string s], .slice a len cap, .tuple #[.agg #[.slice (some ⟨b, o, none⟩) hs.length c'], .string s], .agg #[.slice (some ⟨b, o, none⟩) hs.length c'], .string s, .agg #[.slice (some ⟨b, o, none⟩) hs.length c'], .string s, .int .i64 R, u 0, u 1, u 2, u 3, u 4, .bool false, u 6, u 7, u 8, u 9, .bool false, .bool false, .agg #[.slice (some ⟨b, o, none⟩) hs.length c'], .bool true, .bool false, undef, undef, undef, undef, undef, .int .i64 (i : Int), .pointer (some ⟨w1.heap.size, 0, none⟩), .slice (some ⟨b, o, none⟩) hs.length c', .int .i64 (hs.length : Int), .bool true, u46, u47, .int .i64 (k : Int), .pointer (some ⟨w1.heap.size, 0, none⟩), .slice (some ⟨b, o, none⟩) hs.length c', .int .i64 (i : Int), .pointer (some ⟨b, o + i * 4, none⟩), .pointer (some ⟨b, o + i * 4, none⟩), .slice (some ⟨b2, o2, none⟩) h.names.length c2', .int .i64 (h.names.length : Int), .bool true, u57, u58, z 0, z 1, z 2, z 3, z 4, z 5, z 6, z 7, z 8, z 9, z 10, z 11, z 12, z 13, z 14, z 15, z 16, z 17, z 18, z 19, z 20, z 21, z 22, z 23, z 24, z 25, z 26, z 27, z 28, z 29, u89, undef, undef, undef, undef, undef, undef, undef, undef, undef, undef, undef, undef, undef, undef, undef, undef, undef, undef, undef, undef, undef, undef, undef, undef, undef, undef, undef, undef, undef, undef], defers := [] })
                  (fun _ W => Below wr.heap.size wr W)
                  (RAt [REq (.agg #[.slice (some ⟨b, o, none⟩) hs.length c']), REq (.pointer (some ⟨w1.heap.size, 0, none⟩)), REq (.slice (some ⟨b, o, none⟩) hs.length c'), REq (.int .i64 (i : Int)), REq (.pointer (some ⟨b, o + i * 4, none⟩)), REq (.pointer (some ⟨b, o + i * 4, none⟩)), REq (.slice (some ⟨b2, o2, none⟩) h.names.length c2'), REq (.int .i64 (k : Int)), REq (.pointer (some ⟨b2, o2 + k, none⟩)), REq (.string x), REq (.int .i64 (i : Int)), REq (.int .i64 (i : Int)), REq (.bool false), REq (.bool false), REq (.pointer (some ⟨w1.heap.size, 0, none⟩)), REq (.slice (some ⟨b, o, none⟩) hs.length c'), REq (.int .i64 (i : Int)), REq (.pointer (some ⟨b, o + i * 4, none⟩)), REq (.pointer (some ⟨b, o + i * 4, none⟩)), REq (.slice (some ⟨b2, o2, none⟩) h.names.length c2'), REq (.int .i64 (k : Int)), REq (.pointer (some ⟨b2, o2 + k, none⟩)), REq (.string x), REq (.string s), REq (.bool true), REq (.bool true), REq (.int .i64 R), REq (.int .i64 (i : Int)), REq (.bool false), REq (.bool false)])
                  (fun _ _ => True) (fun i => [u59, u60, u61, u62, u63, u64, u65, u66, u67, u68, u69, u70, u71, u72, u73, u74, u75, u76, u77, u78, u79, u80, u81, u82, u83, u84, u85, u86, u87, u88].getD i undef) (Below.refl _ _).drew
                  (fun i v w w' hi hR _ => blind_allC (by exact ⟨blind_eqC _, blind_eqC _, blind_eqC _, blind_eqC _, blind_eqC _, blind_eqC _, blind_eqC _, blind_eqC _, blind_eqC _, blind_eqC _, blind_eqC _, blind_eqC _, blind_eqC _, blind_eqC _, blind_eqC _, blind_eqC _, blind_eqC _, blind_eqC _, blind_eqC _, blind_eqC _, blind_eqC _, blind_eqC _, blind_eqC _, blind_eqC _, blind_eqC _, blind_eqC _, blind_eqC _, blind_eqC _, blind_eqC _, blind_eqC _, trivial⟩) v w w' hR) ?_ ?_
                · intro i' hi' z W kk hkk hC hd
                  match i', hi' with
                  | 0, _ =>
                    obtain ⟨x0, d1, q2⟩ := HS.out W hC
                    refine wpOp_step rfl (fun K hK => ?_)
                    clear hd
                    go_simp
                    exact hK _ _ ⟨_, rfl, rfl, trivial, hC⟩
                  | 1, _ =>
                    refine wpOp_step rfl (fun K hK => ?_)
                    clear hd
                    go_simp
                    exact hK _ _ ⟨_, rfl, rfl, trivial, hC⟩
                  | 2, _ =>
                    obtain ⟨x0, d1, q2⟩ := HS.out W hC
                    have e1 : z 1 = .pointer (some ⟨w1.heap.size, 0, none⟩) := hd 1 (dep_of (by kernel_rfl))
                    refine wpOp_step rfl (fun K hK => ?_)
                    clear hd
                    go_simp
                    exact hK _ _ ⟨_, by simp [upd, e1], rfl, trivial, hC⟩
                  | 3, _ =>
                    refine wpOp_step rfl (fun K hK => ?_)
                    clear hd
                    go_simp
                    exact hK _ _ ⟨_, rfl, rfl, trivial, hC⟩
                  | 4, _ =>
                    have e2 : z 2 = .slice (some ⟨b, o, none⟩) hs.length c' := hd 2 (dep_of (by kernel_rfl))
                    have e3 : z 3 = .int .i64 (i : Int) := hd 3 (dep_of (by kernel_rfl))
                    refine wpOp_step rfl (fun K hK => ?_)
                    clear hd
                    go_simp
                    exact hK _ _ ⟨_, by simp [upd, e2, e3], rfl, trivial, hC⟩
                  | 5, _ =>
                    have e4 : z 4 = .pointer (some ⟨b, o + i * 4, none⟩) := hd 4 (dep_of (by kernel_rfl))
                    refine wpOp_step rfl (fun K hK => ?_)
                    clear hd
                    go_simp
                    exact hK _ _ ⟨_, by simp [upd, e4], rfl, trivial, hC⟩
                  | 6, _ =>
                    obtain ⟨x0, d1, q2⟩ := HS.out W hC
                    have e5 : z 5 = .pointer (some ⟨b, o + i * 4, none⟩) := hd 5 (dep_of (by kernel_rfl))
                    refine wpOp_step rfl (fun K hK => ?_)
                    clear hd
                    go_simp
                    exact hK _ _ ⟨_, by simp [upd, e5], rfl, trivial, hC⟩
                  | 7, _ =>
                    refine wpOp_step rfl (fun K hK => ?_)
                    clear hd
                    go_simp
                    exact hK _ _ ⟨_, rfl, rfl, trivial, hC⟩
                  | 8, _ =>
                    have e6 : z 6 = .slice (some ⟨b2, o2, none⟩) h.names.length c2' := hd 6 (dep_of (by kernel_rfl))
                    have e7 : z 7 = .int .i64 (k : Int) := hd 7 (dep_of (by kernel_rfl))
                    refine wpOp_step rfl (fun K hK => ?_)
                    clear hd
                    go_simp
                    exact hK _ _ ⟨_, by simp [upd, e6, e7], rfl, trivial, hC⟩
                  | 9, _ =>
                    obtain ⟨x0, d1, q2⟩ := HS.out W hC
                    have e8 : z 8 = .pointer (some ⟨b2, o2 + k, none⟩) := hd 8 (dep_of (by kernel_rfl))
                    refine wpOp_step rfl (fun K hK => ?_)
                    clear hd
                    go_simp
                    exact hK _ _ ⟨_, by simp [upd, e8], rfl, trivial, hC⟩
                  | 10, _ =>
                    have e0 : z 0 = .agg #[.slice (some ⟨b, o, none⟩) hs.length c'] := hd 0 (dep_of (by kernel_rfl))
                    have e9 : z 9 = .string x := hd 9 (dep_of (by kernel_rfl))
                    refine wpOp_step rfl (fun K hK => ?_)
                    clear hd
                    go_simp
                    refine (hC0 W hC).mono ?_
                    rintro e w5 ⟨rfl, hb5⟩
                    exact hK _ _ ⟨_, by simp [upd, e0, e9], rfl, trivial, hC.trans (hb5.mono hC.size)⟩
                  | 11, _ =>
                    refine wpOp_step rfl (fun K hK => ?_)
                    clear hd
                    go_simp
                    exact hK _ _ ⟨_, rfl, rfl, trivial, hC⟩
                  | 12, _ =>
                    have e10 : z 10 = .int .i64 (i : Int) := hd 10 (dep_of (by kernel_rfl))
                    have e11 : z 11 = .int .i64 (i : Int) := hd 11 (dep_of (by kernel_rfl))
                    refine wpOp_step rfl (fun K hK => ?_)
                    clear hd
                    go_simp
                    exact hK _ _ ⟨_, by simp [upd, e10, e11], rfl, trivial, hC⟩
                  | 13, _ =>
                    have e12 : z 12 = .bool false := hd 12 (dep_of (by kernel_rfl))
                    refine wpOp_step rfl (fun K hK => ?_)
                    clear hd
                    go_simp
                    exact hK _ _ ⟨_, by simp [upd, e12], rfl, trivial, hC⟩
                  | 14, _ =>
                    have e13 : z 13 = .bool false := hd 13 (dep_of (by kernel_rfl))
                    refine wpOp_step rfl (fun K hK => ?_)
                    clear hd
                    go_simp
                    exact hK _ _ ⟨_, by simp [upd, e13], rfl, trivial, hC⟩
                  | 15, _ =>
                    obtain ⟨x0, d1, q2⟩ := HS.out W hC
                    have e14 : z 14 = .pointer (some ⟨w1.heap.size, 0, none⟩) := hd 14 (dep_of (by kernel_rfl))
                    have e13 : z 13 = .bool false := hd 13 (dep_of (by kernel_rfl))
                    refine wpOp_step rfl (fun K hK => ?_)
                    clear hd
                    go_simp
                    exact hK _ _ ⟨_, by simp [upd, e14, e13], rfl, trivial, hC⟩
                  | 16, _ =>
                    have e13 : z 13 = .bool false := hd 13 (dep_of (by kernel_rfl))
                    refine wpOp_step rfl (fun K hK => ?_)
                    clear hd
                    go_simp
                    exact hK _ _ ⟨_, by simp [upd, e13], rfl, trivial, hC⟩
                  | 17, _ =>
                    have e15 : z 15 = .slice (some ⟨b, o, none⟩) hs.length c' := hd 15 (dep_of (by kernel_rfl))
                    have e16 : z 16 = .int .i64 (i : Int) := hd 16 (dep_of (by kernel_rfl))
                    have e13 : z 13 = .bool false := hd 13 (dep_of (by kernel_rfl))
                    refine wpOp_step rfl (fun K hK => ?_)
                    clear hd
                    go_simp
                    exact hK _ _ ⟨_, by simp [upd, e15, e16, e13], rfl, trivial, hC⟩
                  | 18, _ =>
                    have e17 : z 17 = .pointer (some ⟨b, o + i * 4, none⟩) := hd 17 (dep_of (by kernel_rfl))
                    have e13 : z 13 = .bool false := hd 13 (dep_of (by kernel_rfl))
                    refine wpOp_step rfl (fun K hK => ?_)
                    clear hd
                    go_simp
                    exact hK _ _ ⟨_, by simp [upd, e17, e13], rfl, trivial, hC⟩
                  | 19, _ =>
                    obtain ⟨x0, d1, q2⟩ := HS.out W hC
                    have e18 : z 18 = .pointer (some ⟨b, o + i * 4, none⟩) := hd 18 (dep_of (by kernel_rfl))
                    have e13 : z 13 = .bool false := hd 13 (dep_of (by kernel_rfl))
                    refine wpOp_step rfl (fun K hK => ?_)
                    clear hd
                    go_simp
                    exact hK _ _ ⟨_, by simp [upd, e18, e13], rfl, trivial, hC⟩
                  | 20, _ =>
                    have e13 : z 13 = .bool false := hd 13 (dep_of (by kernel_rfl))
                    refine wpOp_step rfl (fun K hK => ?_)
                    clear hd
                    go_simp
                    exact hK _ _ ⟨_, by simp [upd, e13], rfl, trivial, hC⟩
                  | 21, _ =>
                    have e19 : z 19 = .slice (some ⟨b2, o2, none⟩) h.names.length c2' := hd 19 (dep_of (by kernel_rfl))
                    have e20 : z 20 = .int .i64 (k : Int) := hd 20 (dep_of (by kernel_rfl))
                    have e13 : z 13 = .bool false := hd 13 (dep_of (by kernel_rfl))
                    refine wpOp_step rfl (fun K hK => ?_)
                    clear hd
                    go_simp
                    exact hK _ _ ⟨_, by simp [upd, e19, e20, e13], rfl, trivial, hC⟩
                  | 22, _ =>
                    obtain ⟨x0, d1, q2⟩ := HS.out W hC
                    have e21 : z 21 = .pointer (some ⟨b2, o2 + k, none⟩) := hd 21 (dep_of (by kernel_rfl))
                    have e13 : z 13 = .bool false := hd 13 (dep_of (by kernel_rfl))
                    refine wpOp_step rfl (fun K hK => ?_)
                    clear hd
                    go_simp
                    exact hK _ _ ⟨_, by simp [upd, e21, e13], rfl, trivial, hC⟩
                  | 23, _ =>
                    have e13 : z 13 = .bool false := hd 13 (dep_of (by kernel_rfl))
                    refine wpOp_step rfl (fun K hK => ?_)
                    clear hd
                    go_simp
                    exact hK _ _ ⟨_, by simp [upd, e13], rfl, trivial, hC⟩
                  | 24, _ =>
                    have e22 : z 22 = .string x := hd 22 (dep_of (by kernel_rfl))
                    have e23 : z 23 = .string s := hd 23 (dep_of (by kernel_rfl))
                    have e13 : z 13 = .bool false := hd 13 (dep_of (by kernel_rfl))
                    refine wpOp_step rfl (fun K hK => ?_)
                    clear hd
                    go_simp
                    exact hK _ _ ⟨_, by simp [upd, e22, e23, e13], rfl, trivial, hC⟩
                  | 25, _ =>
                    have e24 : z 24 = .bool true := hd 24 (dep_of (by kernel_rfl))
                    have e13 : z 13 = .bool false := hd 13 (dep_of (by kernel_rfl))
                    refine wpOp_step rfl (fun K hK => ?_)
                    clear hd
                    go_simp
                    exact hK _ _ ⟨_, by simp [upd, e24, e13], rfl, trivial, hC⟩
                  | 26, _ =>
                    have e25 : z 25 = .bool true := hd 25 (dep_of (by kernel_rfl))
                    refine wpOp_step rfl (fun K hK => ?_)
                    clear hd
                    go_simp
                    exact hK _ _ ⟨_, by simp [upd, e25], rfl, trivial, hC⟩
                  | 27, _ =>
                    have e25 : z 25 = .bool true := hd 25 (dep_of (by kernel_rfl))
                    refine wpOp_step rfl (fun K hK => ?_)
                    clear hd
                    go_simp
                    exact hK _ _ ⟨_, by simp [upd, e25], rfl, trivial, hC⟩
                  | 28, _ =>
                    have e26 : z 26 = .int .i64 R := hd 26 (dep_of (by kernel_rfl))
                    have e27 : z 27 = .int .i64 (i : Int) := hd 27 (dep_of (by kernel_rfl))
                    have e25 : z 25 = .bool true := hd 25 (dep_of (by kernel_rfl))
                    refine wpOp_step rfl (fun K hK => ?_)
                    clear hd
                    go_simp
                    exact hK _ _ ⟨_, by simp [upd, e26, e27, e25], rfl, trivial, hC⟩
                  | 29, _ =>
                    have e25 : z 25 = .bool true := hd 25 (dep_of (by kernel_rfl))
                    have e28 : z 28 = .bool false := hd 28 (dep_of (by kernel_rfl))
                    have e13 : z 13 = .bool false := hd 13 (dep_of (by kernel_rfl))
                    refine wpOp_step rfl (fun K hK => ?_)
                    clear hd
                    go_simp
                    exact hK _ _ ⟨_, by simp [upd, e25, e28, e13], rfl, trivial, hC⟩
                  | i' + 30, h30 => exact absurd h30 (by omega)
                · intro z w5 kk hkk hC hd
                  have e13 : z 13 = .bool false := hd 13 (by decide)
                  have e29 : z 29 = .bool false := hd 29 (by decide)
                  refine wpOp_step rfl (fun K hK => ?_)
                  clear hd
                  go_simp
                  refine hK _ _ ?_
                  clear hK K e13 e29
                  have HB9 := Lib.hid (HBq.out.trans (hC.mono HBq.out.size))
                  clear hC
                  go_wp2
                  go_roundw
                  case rel => exact ⟨k + 1, by omega, by go_num, HB9.out⟩
                  case measure => simp [intOf]; omega
              · have e1 : (x.toList == s.toList) = false := strh_ne exs
                clear exs
                go_upto_region 15 with fail
                refine wp_region_last (by kernel_rfl) 30 (by kernel_rfl) (by kernel_rfl) (by kernel_rfl)
                  (fun z => { tmps := #[.slice a len cap, undef, u2, .pointer (some ⟨w1.heap.size, 0, none⟩), .string s, .int .i64 R, .int .i64 (i : Int), .int .i64 (k : Int), undef, undef, .slice a len cap, .int .i64 (len : Int), .bool (decide ((1048576 : Int) < (len : Int))), .tuple #[.agg #[.slice (some ⟨b, o, none⟩) hs.length c'], .string s], .slice a len cap, .tuple #[.agg #[.slice (some ⟨b, o, none⟩) hs.length c'], .string s], .agg #[.slice (some ⟨b, o, none⟩) hs.length c'], .string s, .agg #[.slice (some ⟨b, o, none⟩) hs.length c'], .string s, .int .i64 R, u 0, u 1, u 2, u 3, u 4, .bool false, u 6, u 7, u 8, u 9, .bool false, .bool false, .agg #[.slice (some ⟨b, o, none⟩) hs.length c'], .bool true, .bool false, undef, undef, undef, undef, undef, .int .i64 (i : Int), .pointer (some ⟨w1.heap.size, 0, none⟩), .slice (some ⟨b, o, none⟩) hs.length c', .int .i64 (hs.length : Int), .bool true, u46, u47, .int .i64 (k : Int), .pointer (some ⟨w1.heap.size, 0, none⟩), .slice (some ⟨b, o, none⟩) hs.length c', .int .i64 (i : Int), .pointer (some ⟨b, o + i * 4, none⟩), .pointer (some ⟨b, o + i * 4, none⟩), .slice (some ⟨b2, o2, none⟩) h.names.length c2', .int .i64 (h.names.length : Int), .bool true, u57, u58, z 0, z 1, z 2, z 3, z 4, z 5, z 6, z 7, z 8, z 9, z 10, z 11, z 12, z 13, z 14, z 15, z 16, z 17, z 18, z 19, z 20, z 21, z 22, z 23, z 24, z 25, z 26, z 27, z 28, z 29, u89, undef, undef, undef, undef, undef, undef, undef, undef, undef, undef, undef, undef, undef, undef, undef, undef, undef, undef, undef, undef, undef, undef, undef, undef, undef, undef, undef, undef, undef, undef], defers := [] })
                  (fun _ W => Below wr.heap.size wr W)
                  (RAt [REq (.agg #[.slice (some ⟨b, o, none⟩) hs.length c']), REq (.pointer (some ⟨w1.heap.size, 0, none⟩)), REq (.slice (some ⟨b, o, none⟩) hs.length c'), REq (.int .i64 (i : Int)), REq (.pointer (some ⟨b, o + i * 4, none⟩)), REq (.pointer (some ⟨b, o + i * 4, none⟩)), REq (.slice (some ⟨b2, o2, none⟩) h.names.length c2'), REq (.int .i64 (k : Int)), REq (.pointer (some ⟨b2, o2 + k, none⟩)), REq (.string x), REq (.int .i64 (i : Int)), REq (.int .i64 (i : Int)), REq (.bool false), REq (.bool false), REq (.pointer (some ⟨w1.heap.size, 0, none⟩)), REq (.slice (some ⟨b, o, none⟩) hs.length c'), REq (.int .i64 (i : Int)), REq (.pointer (some ⟨b, o + i * 4, none⟩)), REq (.pointer (some ⟨b, o + i * 4, none⟩)), REq (.slice (some ⟨b2, o2, none⟩) h.names.length c2'), REq (.int .i64 (k : Int)), REq (.pointer (some ⟨b2, o2 + k, none⟩)), REq (.string x), REq (.string s), REq (.bool false), REq (.bool false), (fun _ _ => True), (fun _ _ => True), (fun _ _ => True), REq (.bool false)])
                  (fun _ _ => True) (fun i => [u59, u60, u61, u62, u63, u64, u65, u66, u67, u68, u69, u70, u71, u72, u73, u74, u75, u76, u77, u78, u79, u80, u81, u82, u83, u84, u85, u86, u87, u88].getD i undef) (Below.refl _ _).drew
                  (fun i v w w' hi hR _ => blind_allC (by exact ⟨blind_eqC _, blind_eqC _, blind_eqC _, blind_eqC _, blind_eqC _, blind_eqC _, blind_eqC _, blind_eqC _, blind_eqC _, blind_eqC _, blind_eqC _, blind_eqC _, blind_eqC _, blind_eqC _, blind_eqC _, blind_eqC _, blind_eqC _, blind_eqC _, blind_eqC _, blind_eqC _, blind_eqC _, blind_eqC _, blind_eqC _, blind_eqC _, blind_eqC _, blind_eqC _, blind_tC, blind_tC, blind_tC, blind_eqC _, trivial⟩) v w w' hR) ?_ ?_
                · intro i' hi' z W kk hkk hC hd
                  match i', hi' with
                  | 0, _ =>
                    obtain ⟨x0, d1, q2⟩ := HS.out W hC
                    refine wpOp_step rfl (fun K hK => ?_)
                    clear hd
                    go_simp
                    exact hK _ _ ⟨_, rfl, rfl, trivial, hC⟩
                  | 1, _ =>
                    refine wpOp_step rfl (fun K hK => ?_)
                    clear hd
                    go_simp
                    exact hK _ _ ⟨_, rfl, rfl, trivial, hC⟩
                  | 2, _ =>
                    obtain ⟨x0, d1, q2⟩ := HS.out W hC
                    have e1 : z 1 = .pointer (some ⟨w1.heap.size, 0, none⟩) := hd 1 (dep_of (by kernel_rfl))
                    refine wpOp_step rfl (fun K hK => ?_)
                    clear hd
                    go_simp
                    exact hK _ _ ⟨_, by simp [upd, e1], rfl, trivial, hC⟩
                  | 3, _ =>
                    refine wpOp_step rfl (fun K hK => ?_)
                    clear hd
                    go_simp
                    exact hK _ _ ⟨_, rfl, rfl, trivial, hC⟩
                  | 4, _ =>
                    have e2 : z 2 = .slice (some ⟨b, o, none⟩) hs.length c' := hd 2 (dep_of (by kernel_rfl))
                    have e3 : z 3 = .int .i64 (i : Int) := hd 3 (dep_of (by kernel_rfl))
                    refine wpOp_step rfl (fun K hK => ?_)
                    clear hd
                    go_simp
                    exact hK _ _ ⟨_, by simp [upd, e2, e3], rfl, trivial, hC⟩
                  | 5, _ =>
                    have e4 : z 4 = .pointer (some ⟨b, o + i * 4, none⟩) := hd 4 (dep_of (by kernel_rfl))
                    refine wpOp_step rfl (fun K hK => ?_)
                    clear hd
                    go_simp
                    exact hK _ _ ⟨_, by simp [upd, e4], rfl, trivial, hC⟩
                  | 6, _ =>
                    obtain ⟨x0, d1, q2⟩ := HS.out W hC
                    have e5 : z 5 = .pointer (some ⟨b, o + i * 4, none⟩) := hd 5 (dep_of (by kernel_rfl))
                    refine wpOp_step rfl (fun K hK => ?_)
                    clear hd
                    go_simp
                    exact hK _ _ ⟨_, by simp [upd, e5], rfl, trivial, hC⟩
                  | 7, _ =>
                    refine wpOp_step rfl (fun K hK => ?_)
                    clear hd
                    go_simp
                    exact hK _ _ ⟨_, rfl, rfl, trivial, hC⟩
                  | 8, _ =>
                    have e6 : z 6 = .slice (some ⟨b2, o2, none⟩) h.names.length c2' := hd 6 (dep_of (by kernel_rfl))
                    have e7 : z 7 = .int .i64 (k : Int) := hd 7 (dep_of (by kernel_rfl))
                    refine wpOp_step rfl (fun K hK => ?_)
                    clear hd
                    go_simp
                    exact hK _ _ ⟨_, by simp [upd, e6, e7], rfl, trivial, hC⟩
                  | 9, _ =>
                    obtain ⟨x0, d1, q2⟩ := HS.out W hC
                    have e8 : z 8 = .pointer (some ⟨b2, o2 + k, none⟩) := hd 8 (dep_of (by kernel_rfl))
                    refine wpOp_step rfl (fun K hK => ?_)
                    clear hd
                    go_simp
                    exact hK _ _ ⟨_, by simp [upd, e8], rfl, trivial, hC⟩
                  | 10, _ =>
                    have e0 : z 0 = .agg #[.slice (some ⟨b, o, none⟩) hs.length c'] := hd 0 (dep_of (by kernel_rfl))
                    have e9 : z 9 = .string x := hd 9 (dep_of (by kernel_rfl))
                    refine wpOp_step rfl (fun K hK => ?_)
                    clear hd
                    go_simp
                    refine (hC0 W hC).mono ?_
                    rintro e w5 ⟨rfl, hb5⟩
                    exact hK _ _ ⟨_, by simp [upd, e0, e9], rfl, trivial, hC.trans (hb5.mono hC.size)⟩
                  | 11, _ =>
                    refine wpOp_step rfl (fun K hK => ?_)
                    clear hd
                    go_simp
                    exact hK _ _ ⟨_, rfl, rfl, trivial, hC⟩
                  | 12, _ =>
                    have e10 : z 10 = .int .i64 (i : Int) := hd 10 (dep_of (by kernel_rfl))
                    have e11 : z 11 = .int .i64 (i : Int) := hd 11 (dep_of (by kernel_rfl))
                    refine wpOp_step rfl (fun K hK => ?_)
                    clear hd
                    go_simp
                    exact hK _ _ ⟨_, by simp [upd, e10, e11], rfl, trivial, hC⟩
                  | 13, _ =>
                    have e12 : z 12 = .bool false := hd 12 (dep_of (by kernel_rfl))
                    refine wpOp_step rfl (fun K hK => ?_)
                    clear hd
                    go_simp
                    exact hK _ _ ⟨_, by simp [upd, e12], rfl, trivial, hC⟩
                  | 14, _ =>
                    have e13 : z 13 = .bool false := hd 13 (dep_of (by kernel_rfl))
                    refine wpOp_step rfl (fun K hK => ?_)
                    clear hd
                    go_simp
                    exact hK _ _ ⟨_, by simp [upd, e13], rfl, trivial, hC⟩
                  | 15, _ =>
                    obtain ⟨x0, d1, q2⟩ := HS.out W hC
                    have e14 : z 14 = .pointer (some ⟨w1.heap.size, 0, none⟩) := hd 14 (dep_of (by kernel_rfl))
                    have e13 : z 13 = .bool false := hd 13 (dep_of (by kernel_rfl))
                    refine wpOp_step rfl (fun K hK => ?_)
                    clear hd
                    go_simp
                    exact hK _ _ ⟨_, by simp [upd, e14, e13], rfl, trivial, hC⟩
                  | 16, _ =>
                    have e13 : z 13 = .bool false := hd 13 (dep_of (by kernel_rfl))
                    refine wpOp_step rfl (fun K hK => ?_)
                    clear hd
                    go_simp
                    exact hK _ _ ⟨_, by simp [upd, e13], rfl, trivial, hC⟩
                  | 17, _ =>
                    have e15 : z 15 = .slice (some ⟨b, o, none⟩) hs.length c' := hd 15 (dep_of (by kernel_rfl))
                    have e16 : z 16 = .int .i64 (i : Int) := hd 16 (dep_of (by kernel_rfl))
                    have e13 : z 13 = .bool false := hd 13 (dep_of (by kernel_rfl))
                    refine wpOp_step rfl (fun K hK => ?_)
                    clear hd
                    go_simp
                    exact hK _ _ ⟨_, by simp [upd, e15, e16, e13], rfl, trivial, hC⟩
                  | 18, _ =>
                    have e17 : z 17 = .pointer (some ⟨b, o + i * 4, none⟩) := hd 17 (dep_of (by kernel_rfl))
                    have e13 : z 13 = .bool false := hd 13 (dep_of (by kernel_rfl))
                    refine wpOp_step rfl (fun K hK => ?_)
                    clear hd
                    go_simp
                    exact hK _ _ ⟨_, by simp [upd, e17, e13], rfl, trivial, hC⟩
                  | 19, _ =>
                    obtain ⟨x0, d1, q2⟩ := HS.out W hC
                    have e18 : z 18 = .pointer (some ⟨b, o + i * 4, none⟩) := hd 18 (dep_of (by kernel_rfl))
                    have e13 : z 13 = .bool false := hd 13 (dep_of (by kernel_rfl))
                    refine wpOp_step rfl (fun K hK => ?_)
                    clear hd
                    go_simp
                    exact hK _ _ ⟨_, by simp [upd, e18, e13], rfl, trivial, hC⟩
                  | 20, _ =>
                    have e13 : z 13 = .bool false := hd 13 (dep_of (by kernel_rfl))
                    refine wpOp_step rfl (fun K hK => ?_)
                    clear hd
                    go_simp
                    exact hK _ _ ⟨_, by simp [upd, e13], rfl, trivial, hC⟩
                  | 21, _ =>
                    have e19 : z 19 = .slice (some ⟨b2, o2, none⟩) h.names.length c2' := hd 19 (dep_of (by kernel_rfl))
                    have e20 : z 20 = .int .i64 (k : Int) := hd 20 (dep_of (by kernel_rfl))
                    have e13 : z 13 = .bool false := hd 13 (dep_of (by kernel_rfl))
                    refine wpOp_step rfl (fun K hK => ?_)
                    clear hd
                    go_simp
                    exact hK _ _ ⟨_, by simp [upd, e19, e20, e13], rfl, trivial, hC⟩
                  | 22, _ =>
                    obtain ⟨x0, d1, q2⟩ := HS.out W hC
                    have e21 : z 21 = .pointer (some ⟨b2, o2 + k, none⟩) := hd 21 (dep_of (by kernel_rfl))
                    have e13 : z 13 = .bool false := hd 13 (dep_of (by kernel_rfl))
                    refine wpOp_step rfl (fun K hK => ?_)
                    clear hd
                    go_simp
                    exact hK _ _ ⟨_, by simp [upd, e21, e13], rfl, trivial, hC⟩
                  | 23, _ =>
                    have e13 : z 13 = .bool false := hd 13 (dep_of (by kernel_rfl))
                    refine wpOp_step rfl (fun K hK => ?_)
                    clear hd
                    go_simp
                    exact hK _ _ ⟨_, by simp [upd, e13], rfl, trivial, hC⟩
                  | 24, _ =>
                    have e22 : z 22 = .string x := hd 22 (dep_of (by kernel_rfl))
                    have e23 : z 23 = .string s := hd 23 (dep_of (by kernel_rfl))
                    have e13 : z 13 = .bool false := hd 13 (dep_of (by kernel_rfl))
                    refine wpOp_step rfl (fun K hK => ?_)
                    clear hd
                    go_simp
                    exact hK _ _ ⟨_, by simp [upd, e22, e23, e13], rfl, trivial, hC⟩
                  | 25, _ =>
                    have e24 : z 24 = .bool false := hd 24 (dep_of (by kernel_rfl))
                    have e13 : z 13 = .bool false := hd 13 (dep_of (by kernel_rfl))
                    refine wpOp_step rfl (fun K hK => ?_)
                    clear hd
                    go_simp
                    exact hK _ _ ⟨_, by simp [upd, e24, e13], rfl, trivial, hC⟩
                  | 26, _ =>
                    have e25 : z 25 = .bool false := hd 25 (dep_of (by kernel_rfl))
                    refine wpOp_step rfl (fun K hK => ?_)
                    clear hd
                    go_simp
                    exact hK _ _ ⟨undef, by simp [upd, e25], trivial, trivial, hC⟩
                  | 27, _ =>
                    have e25 : z 25 = .bool false := hd 25 (dep_of (by kernel_rfl))
                    refine wpOp_step rfl (fun K hK => ?_)
                    clear hd
                    go_simp
                    exact hK _ _ ⟨undef, by simp [upd, e25], trivial, trivial, hC⟩
                  | 28, _ =>
                    have e25 : z 25 = .bool false := hd 25 (dep_of (by kernel_rfl))
                    refine wpOp_step rfl (fun K hK => ?_)
                    clear hd
                    go_simp
                    exact hK _ _ ⟨undef, by simp [upd, e25], trivial, trivial, hC⟩
                  | 29, _ =>
                    have e25 : z 25 = .bool false := hd 25 (dep_of (by kernel_rfl))
                    have e13 : z 13 = .bool false := hd 13 (dep_of (by kernel_rfl))
                    refine wpOp_step rfl (fun K hK => ?_)
                    clear hd
                    go_simp
                    exact hK _ _ ⟨_, by simp [upd, e25, e13], rfl, trivial, hC⟩
                  | i' + 30, h30 => exact absurd h30 (by omega)
                · intro z w5 kk hkk hC hd
                  have e13 : z 13 = .bool false := hd 13 (by decide)
                  have e29 : z 29 = .bool false := hd 29 (by decide)
                  refine wpOp_step rfl (fun K hK => ?_)
                  clear hd
                  go_simp
                  refine hK _ _ ?_
                  clear hK K e13 e29
                  have HB9 := Lib.hid (HBq.out.trans (hC.mono HBq.out.size))
                  clear hC
                  go_wp2
                  go_roundw
                  case rel => exact ⟨k + 1, by omega, by go_num, HB9.out⟩
                  case measure => simp [intOf]; omega
            · have hke : k = h.names.length := by omega
              subst hke
              have HB9 := Lib.hid (HBr.out.trans (hbq.mono hszr))
              clear hbq
              go_wp2
              go_roundw
              case rel => exact ⟨i + 1, by omega, by go_num, HB9.out⟩
              case measure => simp [intOf]; omega
        · have hie : i = hs.length := by omega
          subst hie
          clear hbr
          rcases route_cases hs s with hRc | ⟨k, hRc⟩
          · rw [← HR.out] at hRc
            subst hRc
            clear hHr hxr
            go_wp2
            go_ret
            exact ⟨rfl, hfin⟩
          · obtain ⟨h, hg, hsm⟩ := route_hit hRc
            rw [← HR.out] at hRc
            subst hRc
            have hkl := (List.getElem?_eq_some_iff.1 hg).1
            have hki : (k : Int) < (hs.length : Int) := by omega
            have hk0 : ¬ (k : Int) < 0 := by omega
            obtain ⟨ax, cx, ex, hle1, hle2, hat⟩ := hHr
            obtain ⟨rfl, rfl⟩ : a' = ax ∧ c' = cx := by simpa using ex
            obtain ⟨b, o, u', ea, hbl, d1, hS, _⟩ := hat k h hg
            subst ea
            obtain ⟨a2, c2', rfl, hn1, hn2, hnat⟩ := hS
            have hnl : h.names.length ≤ 3 := (hok h (List.mem_of_getElem? hg)).2.2
            have HNat := Lib.hid hnat
            have HSm := Lib.hid hsm
            have HG := Lib.hid hg
            have HFin := Lib.hid hfin
            clear hat hxr hnat hg ex hsm hfin
            go_wp2_with fail
            go_loopw [8, 9] (fun fv jv wr => ∃ j : Nat, j ≤ h.names.length ∧ jv = .int .i64 j ∧ fv = .bool (hasL (h.names.take j) s) ∧ wr = wo) (fun _ jv _ => h.names.length - (intOf jv).toNat)
            case atStart => exact ⟨0, Nat.zero_le _, rfl, rfl, rfl⟩
            case round =>
              obtain ⟨j, hj, rfl, rfl, rfl⟩ := hrel
              by_cases hjl : j < h.names.length
              · obtain ⟨x, hgx⟩ : ∃ x, h.names[j]? = some x := ⟨_, List.getElem?_eq_getElem hjl⟩
                obtain ⟨b2, o2, ea2, hb2l, q1⟩ := HNat.out j x hgx
                subst ea2
                have hji : (j : Int) < (h.names.length : Int) := by omega
                have HSt := Lib.hid (hasL_step (s := s) hgx)
                clear hgx
                rcases Bool.eq_false_or_eq_true (hasL (h.names.take j) s) with hf | hf
                · rw [hf] at HSt
                  rw [hf]
                  go_wp2
                  go_roundw
                  case rel => exact ⟨j + 1, by omega, by go_num, by rw [HSt.out]; simp⟩
                  case measure => simp [intOf]; omega
                · rw [hf] at HSt
                  rw [hf]
                  by_cases exs : x = s
                  · have e1 : (x.toList == s.toList) = true := by rw [exs]; simp
                    have HE := Lib.hid exs
                    clear exs
                    go_wp2
                    go_roundw
                    case rel => exact ⟨j + 1, by omega, by go_num, by rw [HSt.out, HE.out]; simp⟩
                    case measure => simp [intOf]; omega
                  · have e1 : (x.toList == s.toList) = false := strh_ne exs
                    have HE := Lib.hid exs
                    clear exs
                    go_wp2
                    go_roundw
                    case rel => exact ⟨j + 1, by omega, by go_num, by rw [HSt.out]; simp [HE.out]⟩
                    case measure => simp [intOf]; omega
              · have hje : j = h.names.length := by omega
                subst hje
                have hall3 : hasL (h.names.take h.names.length) s = true := by rw [List.take_length]; exact hasL_iff.2 HSm.out
                rw [hall3]
                go_wp2
                go_ret
                exact ⟨rfl, HFin.out⟩
namespace Lw
theorem fnCfgRoute (w : World) (hL : laidMetH Tryd.prog Rows.fnCfgRouteRow.laid w) (a : Option Addr) (len cap : Nat) (zs : List Int) (h : IsRow .u8 w a len cap zs) :
    Calls Tryd.prog 3 #[.slice a len cap] w fun e w' => e = .returned (.bool true) ∧ Below w.heap.size w w' := by
  exact law_cfgrt a len cap zs w h (cls_of_head hL)
end Lw
end Go.Proofs.YtojmfcpkmknleaaDoor

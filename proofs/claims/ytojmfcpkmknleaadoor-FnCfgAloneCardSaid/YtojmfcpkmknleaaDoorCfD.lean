/- Walks: the drawing of houses. -/
import Derived.Test.YtojmfcpkmknleaaDoorHouR
import Derived.Deep.DeepCutAuto
namespace Go.Proofs.YtojmfcpkmknleaaDoor
open Go.RowKit

theorem Tryd.infoHs : (Tryd.prog.info? 33).map (fun i => (i.zero, i.size, i.bytes)) = some (some (.agg #[.slice none 0 0, .int .i64 0, .int .i64 0, .int .i64 0]), 4, 48) := by kernel_rfl
theorem hsm_lit {L : List ByteArray} {k n b : Int} (h : (1 ≤ L.length ∧ L.length ≤ 2) ∧ (L.all fun s => decide (s.size ≤ 40)) = true) : HSm ⟨L, k, n, b⟩ :=
  ⟨fun s hs => by have := (List.all_eq_true.1 h.2) s hs; simpa using this, h.1.1, h.1.2⟩
def DrawnCfg (w : World) (B g m : Nat) (e : Ending) (w' : World) : Prop :=
  ∃ (its : List (Value × Hs)) (v : Value), e = .returned (.agg #[v]) ∧ w'.ownsRow w.heap.size 33 4 v its.length (icells its) ∧ (∀ p ∈ its, NOwn g w' p.1 p.2.names) ∧ (∀ p ∈ its, HSm p.2) ∧ 1 ≤ its.length ∧ its.length ≤ 3 ∧ Drawn w w' B g m
theorem own_form2 {w : World} {B size n : Nat} {e : TypeId} {v : Value} {xs : List Value} (h : w.ownsRow B e size v n xs) : ∃ a c, v = .slice a n c := by
  rcases h.2 with ⟨rfl, rfl⟩ | ⟨c, cap, cur, rfl, _⟩
  · exact ⟨none, 0, rfl⟩
  · exact ⟨_, cap, rfl⟩
def two1 : Array Value := #[.string ⟨#[116, 119, 111, 46, 120]⟩]
def ints3 : Array Value := #[.int .i64 120, .int .i64 30, .int .i64 60]
set_option maxRecDepth 100000 in
set_option maxHeartbeats 6400000 in
theorem cfg_any (g B m : Nat) (w : World) (hm : m ≤ 500000) (h : RdAt w B g m) :
    Calls Tryd.prog 42 #[.pointer (some ⟨g, 0, none⟩)] w (DrawnCfg w B g (m + 100)) := by
  have hg := h.lt
  go_enter Tryd.func42, Tryd.ntmps42
  go_wp2_with fail
  obtain ⟨w0, hw0⟩ : ∃ w0, w0 = w.alloc (.cells #[.slice none 0 0] 25) := ⟨_, rfl⟩
  have h0 : RdAt w0 B g m := by rw [hw0]; exact h.alloc _
  have hs0 : w0.heap.size = w.heap.size + 1 := by rw [hw0]; simp
  have hg0 : g < w0.heap.size := by omega
  rw [← hw0]
  refine (pick_lit g 200 200 rfl (by decide) B m _ (by omega) (by decide) (h0.alloc _)).mono ?_
  rintro e w1 ⟨r1, rfl, hr1, -, hd1⟩
  have n1 : w1.heap[w.heap.size + 1]? = some (.cells #[.string ⟨#[111, 110, 101, 46, 120]⟩, .string ⟨#[97, 108, 115, 111, 46, 111, 110, 101]⟩] 9 (0, 0)) := by
    refine block_keep (by omega) ?_ hd1.2
    rw [← hs0]; exact heap_alloc_new w0 _
  have hD1 := hd1.of_alloc
  have hrd1 := hd1.1
  clear hd1
  go_wp2_with fail
  refine (pick_lit g 4 4 rfl (by decide) B (m + 1) _ (by omega) (by decide) hrd1).mono ?_
  rintro e w2 ⟨r2, rfl, hr2, -, hd2⟩
  have n2 := block_keep (by omega) n1 hd2.2
  have hD2 := hD1.trans hd2
  have hrd2 := hd2.1
  clear hd2 hD1 n1 hrd1
  go_wp2_with fail
  refine (pick_lit g 100 100 rfl (by decide) B (m + 1 + 1) _ (by omega) (by decide) hrd2).mono ?_
  rintro e w3 ⟨r3, rfl, hr3, -, hd3⟩
  have n3 := block_keep (by omega) n2 hd3.2
  have hD3 := hD2.trans hd3
  have hsz3 := hD3.2.size
  clear hd3 hD2 n2 hrd2
  obtain ⟨W4, hW4⟩ : ∃ W4, W4 = (w3.alloc (.cells #[.slice (some ⟨w.heap.size + 1, 0, none⟩) 2 2, .int .i64 (1 + (r1 : Int)), .int .i64 (1 + (r2 : Int)), .int .i64 (20 + (r3 : Int))] 33)).alloc (.cells #[.slice (some ⟨w3.heap.size, 0, none⟩) 1 1] 25) := ⟨_, rfl⟩
  have hI : CIn w0 W4 B g (m + 3) (w3.heap.size + 1) [(.slice (some ⟨w.heap.size + 1, 0, none⟩) 2 2, ⟨[⟨#[111, 110, 101, 46, 120]⟩, ⟨#[97, 108, 115, 111, 46, 111, 110, 101]⟩], 1 + (r1 : Int), 1 + (r2 : Int), 20 + (r3 : Int)⟩)] (.slice (some ⟨w3.heap.size, 0, none⟩) 1 1) := by
    have hd4 : Drawn w3 W4 B g (m + 3) := by rw [hW4]; exact ((Drawn.refl hD3.1).alloc _).alloc _
    have hr4 : W4.heap[w3.heap.size]? = some (.cells #[.slice (some ⟨w.heap.size + 1, 0, none⟩) 2 2, .int .i64 (1 + (r1 : Int)), .int .i64 (1 + (r2 : Int)), .int .i64 (20 + (r3 : Int))] 33 (0, 0)) := by
      rw [hW4, Below.heap_alloc _ _ _ (by simp)]; exact heap_alloc_new w3 _
    refine ⟨?_, ⟨rfl, .inr ⟨w3.heap.size, 1, _, rfl, hsz3, hr4, Nat.le_refl _, by decide, rfl, rfl⟩⟩, fun p hp => ?_, fun p hp => ?_, hD3.trans hd4, hg0, by omega⟩
    · rw [hW4]
      have := heap_alloc_new (w3.alloc (.cells #[.slice (some ⟨w.heap.size + 1, 0, none⟩) 2 2, .int .i64 (1 + (r1 : Int)), .int .i64 (1 + (r2 : Int)), .int .i64 (20 + (r3 : Int))] 33)) (.cells #[.slice (some ⟨w3.heap.size, 0, none⟩) 1 1] 25)
      simpa using this
    · have hp2 := List.mem_singleton.1 hp
      subst hp2
      exact ⟨w.heap.size + 1, 2, _, rfl, Nat.le_refl _, by decide, by omega, block_keep (by omega) n3 hd4.2, fun j s hj => by
        match j, hj with
        | 0, hj => simpa using hj
        | 1, hj => simpa using hj⟩
    · have hp2 := List.mem_singleton.1 hp
      subst hp2
      exact hsm_lit (by decide)
  obtain ⟨b, hb⟩ : ∃ b, b = w3.heap.size + 1 := ⟨_, rfl⟩
  rw [← hb] at hI
  generalize hits : [((.slice (some ⟨w.heap.size + 1, 0, none⟩) 2 2 : Value), (⟨[⟨#[111, 110, 101, 46, 120]⟩, ⟨#[97, 108, 115, 111, 46, 111, 110, 101]⟩], 1 + (r1 : Int), 1 + (r2 : Int), 20 + (r3 : Int)⟩ : Hs))] = its at hI
  have hlen : its.length = 1 := by rw [← hits]; rfl
  have HW4 := Lib.hid hW4
  clear hits n3 hD3 hW4 hsz3
  have hfin : ∀ (W : World) (M : Nat) (its : List (Value × Hs)) (a : Option Addr) (c : Nat), CIn w0 W B g M b its (.slice a its.length c) → M ≤ m + 100 → 1 ≤ its.length → its.length ≤ 3 →
      W.cell? ⟨w.heap.size, 0, none⟩ = some (.slice none 0 0) ∧ W.frozen? ⟨w.heap.size, 0, none⟩ = false ∧ (W.setCell ⟨w.heap.size, 0, none⟩ (.slice a its.length c)).cell? ⟨w.heap.size, 0, none⟩ = some (.slice a its.length c) ∧
      Hid (DrawnCfg w B g (m + 100) (.returned (.agg #[.slice a its.length c])) (W.setCell ⟨w.heap.size, 0, none⟩ (.slice a its.length c))) := fun W M its a c hh hM h1 h3 => by
    have hbw := hh.wb
    have r0 : W.heap[w.heap.size]? = some (.cells #[.slice none 0 0] 25 (0, 0)) := by
      refine block_keep (by omega) ?_ hh.drawn.2
      rw [hw0]; exact heap_alloc_new w _
    have r1 := heap_setCell_same W w.heap.size 0 _ _ (.slice a its.length c) r0
    refine ⟨by simp [World.cell?, r0], by simp [World.frozen?, r0], by simp [World.cell?, r1], Lib.hid ⟨its, _, rfl, ?_, fun p hp => (hh.nms p hp).set r0 (by decide) 0 _, hh.ok, h1, h3, ?_⟩⟩
    · have ho := own_setC (k := 0) hh.own (b := w.heap.size) (fun e => by have := (own_type hh.own e).1; omega) (.slice a its.length c)
      refine ⟨ho.1, ?_⟩
      rcases ho.2 with ho | ⟨c, cap, cur, hv, hB, rest⟩
      · exact .inl ho
      · exact .inr ⟨c, cap, cur, hv, by omega, rest⟩
    · have hW' : Drawn w W B g M := by have hW := hh.drawn; rw [hw0] at hW; exact hW.of_alloc
      exact (drawn_setC hW' hg (Nat.le_refl _) 0 _).mono hM
  have HF := Lib.hid hfin
  clear hfin
  have hrd4 := hI.drawn.1
  go_wp2_with fail
  rw [← HW4.out, ← hb]
  refine (pick_lit g 4 4 rfl (by decide) B (m + 3) _ (by omega) (by decide) hrd4).mono ?_
  rintro e w5 ⟨r5, rfl, hr5, -, hd5⟩
  have hI5 := hI.keep hd5
  have hrd5 := hd5.1
  clear hd5 hI hrd4 HW4 hb
  go_upto_if 19 with fail
  go_cut [] (fun wx => ∃ (its : List (Value × Hs)) (v : Value), 1 ≤ its.length ∧ its.length ≤ 2 ∧ CIn w0 wx B g (m + 60) b its v)
  case first =>
    by_cases hr0 : 0 < r5
    · have hr0' : (0 : Int) < (r5 : Int) := by omega
      go_upto_region 3 with fail
      rw [decide_eq_true hr0]
      obtain ⟨i0, hi, hz0, hz1, hz2⟩ := info_parts Tryd.infoHs
      have hg5 : g < w5.heap.size := hrd5.lt
      have hrow : ∀ r, (Value.ownBlock (.slice (some ⟨w3.heap.size, 0, none⟩) 1 1)) = some r → r < w5.heap.size := fun r hr => by
        obtain ⟨_, cs, hc⟩ := own_type hI5.own hr
        exact (Array.getElem?_eq_some_iff.1 hc).1
      refine wp_region_lastL (by kernel_rfl) 18 (by kernel_rfl) (by kernel_rfl) (by kernel_rfl)
        (fun u => { tmps := #[.pointer (some ⟨g, 0, none⟩), undef, .pointer (some ⟨w.heap.size, 0, none⟩), .pointer (some ⟨b, 0, none⟩), .slice (some ⟨w.heap.size + 1, 0, none⟩) 2 2, .pointer (some ⟨g, 0, none⟩), .int .i64 (r1 : Int), .int .i64 (1 + (r1 : Int)), .pointer (some ⟨g, 0, none⟩), .int .i64 (r2 : Int), .int .i64 (1 + (r2 : Int)), .pointer (some ⟨g, 0, none⟩), .int .i64 (r3 : Int), .int .i64 (20 + (r3 : Int)), .agg #[.slice (some ⟨w.heap.size + 1, 0, none⟩) 2 2, .int .i64 (1 + (r1 : Int)), .int .i64 (1 + (r2 : Int)), .int .i64 (20 + (r3 : Int))], .slice (some ⟨w3.heap.size, 0, none⟩) 1 1, .agg #[.slice (some ⟨w3.heap.size, 0, none⟩) 1 1], .pointer (some ⟨g, 0, none⟩), .int .i64 (r5 : Int), .bool true, u 0, u 1, u 2, u 3, u 4, u 5, u 6, u 7, u 8, u 9, u 10, u 11, u 12, u 13, u 14, u 15, u 16, u 17, undef, undef, undef, undef, undef, undef, undef, undef, undef, undef, undef], defers := [] })
        (CRowC 16 w5.heap.size w0 B g (m + 3 + 1) b its (.slice (some ⟨w3.heap.size, 0, none⟩) 1 1))
        (RAt [REq (.pointer (some ⟨b, 0, none⟩)), REq (.slice (some ⟨w3.heap.size, 0, none⟩) 1 1), RLitF w5.heap.size 1 two1 9, REq (.pointer (some ⟨g, 0, none⟩)), RNum 200, RInt, REq (.pointer (some ⟨g, 0, none⟩)), RNum 6, RInt, RLitF w5.heap.size 3 ints3 3, REq (.pointer (some ⟨g, 0, none⟩)), RNum 3, RCellI w5.heap.size, RInt, RHs w5.heap.size, RHBox w5.heap.size, RAppC g w0.heap.size its, REq (.pointer (some ⟨b, 0, none⟩))])
        (LeAtN 16 g (Value.ownBlock (.slice (some ⟨w3.heap.size, 0, none⟩) 1 1))) (fun _ => undef) ⟨hI5.box, hI5.drawn.drew, fun _ => hI5.own, hI5.nms, Nat.le_refl _, hg0, hI5.wb⟩ ?_ ?_ ?_
      · intro i j x W W' hi' _ hij hR hle
        match i, hi' with
        | 0, _ => exact stay2_eq g _ _ x W W' hR (leN_two hle)
        | 1, _ => exact stay2_eq g _ _ x W W' hR (leN_two hle)
        | 2, _ => exact stay2_lit hg5 hrow x W W' hR (leN_two hle)
        | 3, _ => exact stay2_eq g _ _ x W W' hR (leN_two hle)
        | 4, _ => exact stay2_num g _ _ x W W' hR (leN_two hle)
        | 5, _ => exact stay2_int g _ x W W' hR (leN_two hle)
        | 6, _ => exact stay2_eq g _ _ x W W' hR (leN_two hle)
        | 7, _ => exact stay2_num g _ _ x W W' hR (leN_two hle)
        | 8, _ => exact stay2_int g _ x W W' hR (leN_two hle)
        | 9, _ => exact stay2_lit hg5 hrow x W W' hR (leN_two hle)
        | 10, _ => exact stay2_eq g _ _ x W W' hR (leN_two hle)
        | 11, _ => exact stay2_num g _ _ x W W' hR (leN_two hle)
        | 12, _ => exact stay2_celli hg5 hrow x W W' hR (leN_two hle)
        | 13, _ => exact stay2_int g _ x W W' hR (leN_two hle)
        | 14, _ => exact stay2_hs hg5 hrow x W W' hR (leN_two hle)
        | 15, _ => exact stay2_hbox hg5 hrow x W W' hR (leN_two hle)
        | 16, _ => exact stay_appc hg0 x W W' hR (leN_not (Ne.symm hij) hle)
        | 17, _ => exact stay2_eq g _ _ x W W' hR (leN_two hle)
        | i + 18, h18 => exact absurd h18 (by omega)
      · intro i hi' L z W k hk hL hC hd'
        have hsz : w5.heap.size ≤ W.heap.size := hC.2.2.2.2.1
        match i, hi' with
          | 0, _ =>
            refine wpOp_step rfl (fun K hK => ?_)
            clear hd'
            go_simp
            exact hK _ _ ⟨_, rfl, rfl, leN_mk (by decide) (World.grownBy.refl _ _), hC.same⟩
          | 1, _ =>
            have e0 : z 0 = .pointer (some ⟨b, 0, none⟩) := hd' 0 (dep_of (by kernel_rfl))
            have x3 : W.cell? ⟨b, 0, none⟩ = some (.slice (some ⟨w3.heap.size, 0, none⟩) 1 1) := by simp [World.cell?, hC.1]
            refine wpOp_step rfl (fun K hK => ?_)
            clear hd'
            go_simp
            exact hK _ _ ⟨_, by simp [upd, e0], rfl, leN_mk (by decide) (World.grownBy.refl _ _), hC.same⟩
          | 2, _ =>
            refine wpOp_step rfl (fun K hK => ?_)
            clear hd'
            go_simp
            exact hK _ _ ⟨_, rfl, ⟨_, rfl, hsz, heap_alloc_new W _⟩, leN_mk (by decide) (World.grownBy_alloc _ _ _), hC.alloc _⟩
          | 3, _ =>
            refine wpOp_step rfl (fun K hK => ?_)
            clear hd'
            go_simp
            exact hK _ _ ⟨_, rfl, rfl, leN_mk (by decide) (World.grownBy.refl _ _), hC.same⟩
          | 4, _ =>
            have e3 : z 3 = .pointer (some ⟨g, 0, none⟩) := hd' 3 (dep_of (by kernel_rfl))
            refine wpOp_step rfl (fun K hK => ?_)
            clear hd'
            go_simp
            refine (pick_lit g 200 200 rfl (by decide) B (m + 3 + 1 + k) _ (by omega) (by decide) hC.2.1.1).mono ?_
            rintro e w7 ⟨r, rfl, hr, -, hd2⟩
            exact hK _ _ ⟨_, by simp [upd, e3], ⟨r, rfl, hr⟩, leN_mk (by decide) hd2.2, hC.keep (d := 1) hd2 (by omega)⟩
          | 5, _ =>
            obtain ⟨r, e4, hr⟩ : RNum 200 (z 4) W := hd' 4 (dep_of (by kernel_rfl))
            refine wpOp_step rfl (fun K hK => ?_)
            clear hd'
            go_simp
            exact hK _ _ ⟨.int .i64 (IntKind.i64.wrap (300 + (r : Int))), by simp [upd, e4], ⟨_, rfl⟩, leN_mk (by decide) (World.grownBy.refl _ _), hC.same⟩
          | 6, _ =>
            refine wpOp_step rfl (fun K hK => ?_)
            clear hd'
            go_simp
            exact hK _ _ ⟨_, rfl, rfl, leN_mk (by decide) (World.grownBy.refl _ _), hC.same⟩
          | 7, _ =>
            have e6 : z 6 = .pointer (some ⟨g, 0, none⟩) := hd' 6 (dep_of (by kernel_rfl))
            refine wpOp_step rfl (fun K hK => ?_)
            clear hd'
            go_simp
            refine (pick_lit g 6 6 rfl (by decide) B (m + 3 + 1 + k) _ (by omega) (by decide) hC.2.1.1).mono ?_
            rintro e w7 ⟨r, rfl, hr, -, hd2⟩
            exact hK _ _ ⟨_, by simp [upd, e6], ⟨r, rfl, hr⟩, leN_mk (by decide) hd2.2, hC.keep (d := 1) hd2 (by omega)⟩
          | 8, _ =>
            obtain ⟨r, e7, hr⟩ : RNum 6 (z 7) W := hd' 7 (dep_of (by kernel_rfl))
            refine wpOp_step rfl (fun K hK => ?_)
            clear hd'
            go_simp
            exact hK _ _ ⟨.int .i64 (IntKind.i64.wrap (1 + (r : Int))), by simp [upd, e7], ⟨_, rfl⟩, leN_mk (by decide) (World.grownBy.refl _ _), hC.same⟩
          | 9, _ =>
            refine wpOp_step rfl (fun K hK => ?_)
            clear hd'
            go_simp
            exact hK _ _ ⟨_, rfl, ⟨_, rfl, hsz, heap_alloc_new W _⟩, leN_mk (by decide) (World.grownBy_alloc _ _ _), hC.alloc _⟩
          | 10, _ =>
            refine wpOp_step rfl (fun K hK => ?_)
            clear hd'
            go_simp
            exact hK _ _ ⟨_, rfl, rfl, leN_mk (by decide) (World.grownBy.refl _ _), hC.same⟩
          | 11, _ =>
            have e10 : z 10 = .pointer (some ⟨g, 0, none⟩) := hd' 10 (dep_of (by kernel_rfl))
            refine wpOp_step rfl (fun K hK => ?_)
            clear hd'
            go_simp
            refine (pick_lit g 3 3 rfl (by decide) B (m + 3 + 1 + k) _ (by omega) (by decide) hC.2.1.1).mono ?_
            rintro e w7 ⟨r, rfl, hr, -, hd2⟩
            exact hK _ _ ⟨_, by simp [upd, e10], ⟨r, rfl, hr⟩, leN_mk (by decide) hd2.2, hC.keep (d := 1) hd2 (by omega)⟩
          | 12, _ =>
            obtain ⟨c, e9, hcB, hcb⟩ : RLitF w5.heap.size 3 ints3 3 (z 9) W := hd' 9 (dep_of (by kernel_rfl))
            obtain ⟨r, e11, hr⟩ : RNum 3 (z 11) W := hd' 11 (dep_of (by kernel_rfl))
            obtain ⟨s, hs⟩ := lit_atI (lo := 0) (hi := 255) hcb (by repeat (first | exact trivial | refine ⟨⟨_, rfl, by omega, by omega⟩, ?_⟩)) (r := r) hr
            have hr6 : (r : Int) < 3 := by omega
            refine wpOp_step rfl (fun K hK => ?_)
            clear hd'
            go_simp
            exact hK _ _ ⟨_, by simp [upd, e9, e11], ⟨c, r, s, rfl, hcB, hs⟩, leN_mk (by decide) (World.grownBy.refl _ _), hC.same⟩
          | 13, _ =>
            obtain ⟨c, r, s, e12, hcB, hs⟩ : RCellI w5.heap.size (z 12) W := hd' 12 (dep_of (by kernel_rfl))
            refine wpOp_step rfl (fun K hK => ?_)
            clear hd'
            go_simp
            exact hK _ _ ⟨_, by simp [upd, e12], ⟨s, rfl⟩, leN_mk (by decide) (World.grownBy.refl _ _), hC.same⟩
          | 14, _ =>
            obtain ⟨c, e2, hcB, hcb⟩ : RLitF w5.heap.size 1 two1 9 (z 2) W := hd' 2 (dep_of (by kernel_rfl))
            obtain ⟨x, e5⟩ : RInt (z 5) W := hd' 5 (dep_of (by kernel_rfl))
            obtain ⟨y, e8⟩ : RInt (z 8) W := hd' 8 (dep_of (by kernel_rfl))
            obtain ⟨t, e13⟩ : RInt (z 13) W := hd' 13 (dep_of (by kernel_rfl))
            refine wpOp_step rfl (fun K hK => ?_)
            clear hd'
            go_simp
            exact hK _ _ ⟨hval (.slice (some ⟨c, 0, none⟩) 1 1) ⟨[⟨#[116, 119, 111, 46, 120]⟩], x, y, t⟩, by simp [upd, e2, e5, e8, e13, hval], ⟨_, _, rfl, ⟨c, 1, two1, rfl, Nat.le_refl _, by decide, hcB, hcb, fun j s hj => by match j, hj with | 0, hj => simpa [two1] using hj⟩, hsm_lit (by decide)⟩, leN_mk (by decide) (World.grownBy.refl _ _), hC.same⟩
          | 15, _ =>
            obtain ⟨u, h1, e14, hn1, hs1⟩ : RHs w5.heap.size (z 14) W := hd' 14 (dep_of (by kernel_rfl))
            unfold hval at e14
            have hne : W.grownBy (W.alloc (.cells #[u, .int .i64 h1.key, .int .i64 h1.maxN, .int .i64 h1.maxB] 33)) (some g) := World.grownBy_alloc _ _ _
            refine wpOp_step rfl (fun K hK => ?_)
            clear hd'
            go_simp
            exact hK _ _ ⟨_, by simp [upd, e14], ⟨_, u, h1, rfl, hsz, heap_alloc_new W _, hn1.keep hg5 hrow (.inl hne), hs1⟩, leN_mk (by decide) hne, hC.alloc _⟩
          | 16, _ =>
            have e1 : z 1 = .slice (some ⟨w3.heap.size, 0, none⟩) 1 1 := hd' 1 (dep_of (by kernel_rfl))
            obtain ⟨c, u, h1, e15, hcB, hcb, hn1, hs1⟩ : RHBox w5.heap.size (z 15) W := hd' 15 (dep_of (by kernel_rfl))
            have hown := hC.2.2.1 hL
            refine wpOp_step rfl (fun K hK => ?_)
            clear hd'
            refine wp_append_lies _ (.tmp 21) (.tmp 35) 23 (by rfl) w0.heap.size 33 i0 _ 4 48 Tryd.underlying23 hi hz0 hz1 hz2 (by rfl) (by decide) (.slice (some ⟨w3.heap.size, 0, none⟩) 1 1) its.length (icells its) (by exact e1) hown ⟨c, 0, none⟩ 1 1 [u, .int .i64 h1.key, .int .i64 h1.maxN, .int .i64 h1.maxB] (by exact e15) (by rfl) (World.news_of_block hcb) (by obtain ⟨_, _, _, rfl, _⟩ := hn1; intro x hx; simp at hx; rcases hx with rfl | rfl | rfl | rfl <;> rfl) (by omega) (by unfold maxLen; omega) (by omega) (by have := hC.2.1.2.size; omega) W.heap.size rfl ?_
            intro g3 cap w7 ho7 hg7 _ _
            refine hK _ _ ⟨_, rfl, ⟨(u, h1), (hn1.keep hg5 hrow (.inr hg7)).own hg5, hs1, ho7⟩, ?_, ?_⟩
            · unfold LeAtN; rw [if_pos rfl]; exact hg7
            · exact hC.app hL hI5.ok hg7
          | 17, _ =>
            refine wpOp_step rfl (fun K hK => ?_)
            clear hd'
            go_simp
            exact hK _ _ ⟨_, rfl, rfl, leN_mk (by decide) (World.grownBy.refl _ _), hC.same⟩
          | i + 18, h18 => exact absurd h18 (by omega)
      · intro L z W k hk hC hd'
        have ha : RAppC g w0.heap.size its (z 16) W := hd' 16 (by decide)
        have e17 : z 17 = .pointer (some ⟨b, 0, none⟩) := hd' 17 (by decide)
        obtain ⟨x3, p3, p, hI8⟩ := CRowC.fin hC ha hI5.ok
        obtain ⟨v', e16⟩ : ∃ x, z 16 = x := ⟨_, rfl⟩
        rw [e16] at hI8
        obtain ⟨a5, c5, hv⟩ := own_form2 hI8.own
        rw [show (its ++ [p]).length = 2 from by simp [hlen]] at hv
        subst hv
        have HI8 := Lib.hid hI8
        clear ha hC hd' hI5 hI8 hi hz0 hz1 hz2 hrow
        refine wpOp_step rfl (fun K hK => ?_)
        go_simp
        refine hK _ _ ?_
        clear hK K
        go_wp2
        go_meet
        exact ⟨its ++ [p], _, by simp, by simp; omega, HI8.out.mono (by omega)⟩
    · have n0 : r5 = 0 := by omega
      subst n0
      go_wp2_with fail
      go_meet
      exact ⟨its, _, by omega, by omega, hI5.mono (by omega)⟩
  case rest =>
    obtain ⟨its2, v2, hl1, hl2, hI6⟩ := hcut
    have hrd6 := hI6.drawn.1
    obtain ⟨a2, c2, rfl⟩ := own_form2 hI6.own
    clear hI5 hrd5 hr5 hlen
    go_wp2_with fail
    refine (pick_lit g 3 3 rfl (by decide) B (m + 60) _ (by omega) (by decide) hrd6).mono ?_
    rintro e w7 ⟨r7, rfl, hr7, -, hd7⟩
    have hI7 := hI6.keep hd7
    clear hd7 hI6 hrd6
    go_upto_if 40 with fail
    go_cut [] (fun wx => ∃ (its : List (Value × Hs)) (v : Value), 1 ≤ its.length ∧ its.length ≤ 3 ∧ CIn w0 wx B g (m + 90) b its v)
    case first =>
      by_cases hr0 : r7 = 0
      · subst hr0
        obtain ⟨i0, hi, hz0, hz1, hz2⟩ := info_parts Tryd.infoHs
        obtain ⟨x0, _⟩ := one_factC hI7.box
        have hI8 := (hI7.alloc (.cells #[.string ⟨#[116, 104, 114, 101, 101]⟩] 9)).alloc (.cells #[.slice (some ⟨w7.heap.size, 0, none⟩) 1 1, .int .i64 9999, .int .i64 2, .int .i64 40] 33)
        have hnew : NOwn g ((w7.alloc (.cells #[.string ⟨#[116, 104, 114, 101, 101]⟩] 9)).alloc (.cells #[.slice (some ⟨w7.heap.size, 0, none⟩) 1 1, .int .i64 9999, .int .i64 2, .int .i64 40] 33)) (.slice (some ⟨w7.heap.size, 0, none⟩) 1 1) [⟨#[116, 104, 114, 101, 101]⟩] := by
          refine ⟨w7.heap.size, 1, #[.string ⟨#[116, 104, 114, 101, 101]⟩], rfl, Nat.le_refl _, by decide, by have := hI7.drawn.1.lt; omega, ?_, fun j s hj => ?_⟩
          · rw [Below.heap_alloc _ _ _ (by simp)]; exact heap_alloc_new w7 _
          · match j, hj with
            | 0, hj => simpa using hj
        have hmore : ∀ W' v', ((w7.alloc (.cells #[.string ⟨#[116, 104, 114, 101, 101]⟩] 9)).alloc (.cells #[.slice (some ⟨w7.heap.size, 0, none⟩) 1 1, .int .i64 9999, .int .i64 2, .int .i64 40] 33)).grownBy W' (.slice a2 its2.length c2 : Value).ownBlock →
            W'.ownsRow w0.heap.size 33 4 v' (its2.length + 1) (icells its2 ++ [.slice (some ⟨w7.heap.size, 0, none⟩) 1 1, .int .i64 9999, .int .i64 2, .int .i64 40]) →
            W'.cell? ⟨b, 0, none⟩ = some (.slice a2 its2.length c2) ∧ W'.frozen? ⟨b, 0, none⟩ = false ∧ Hid (CIn w0 (W'.setCell ⟨b, 0, none⟩ v') B g (m + 60 + 1) b (its2 ++ [(.slice (some ⟨w7.heap.size, 0, none⟩) 1 1, ⟨[⟨#[116, 104, 114, 101, 101]⟩], 9999, 2, 40⟩)]) v') := fun W' v' hg' ho' => by
          obtain ⟨k1, k2, k3⟩ := hI8.setRow (.slice (some ⟨w7.heap.size, 0, none⟩) 1 1, ⟨[⟨#[116, 104, 114, 101, 101]⟩], 9999, 2, 40⟩) (hsm_lit (by decide)) ((hI8.grown hg').2.1 _ _ hnew) hg' ho'
          exact ⟨k1, k2, Lib.hid k3⟩
        have HM := Lib.hid hmore
        have hown := hI8.own
        have hsz7 := hI7.drawn.2.size
        clear hmore hI7 hnew hI8
        go_wp2_with (at_builtin; go_must (refine wpList_append_lies _ rfl _ _ 23 (by rfl) w0.heap.size 33 i0 _ 4 48 Tryd.underlying23 hi hz0 hz1 hz2 (by rfl) (by decide) _ its2.length (icells its2) (by rfl) hown ⟨w7.heap.size + 1, 0, none⟩ 1 1 [.slice (some ⟨w7.heap.size, 0, none⟩) 1 1, .int .i64 9999, .int .i64 2, .int .i64 40] (by rfl) (by rfl) (World.news_of_block (cs := #[.slice (some ⟨w7.heap.size, 0, none⟩) 1 1, .int .i64 9999, .int .i64 2, .int .i64 40]) (t := 33) (fr := (0, 0)) (by simpa using heap_alloc_new (w7.alloc (.cells #[.string ⟨#[116, 104, 114, 101, 101]⟩] 9)) (.cells #[.slice (some ⟨w7.heap.size, 0, none⟩) 1 1, .int .i64 9999, .int .i64 2, .int .i64 40] 33))) (by intro x hx; simp at hx; rcases hx with rfl | rfl | rfl | rfl <;> rfl) (by omega) (by unfold maxLen; omega) (by omega) (by simp; omega) (w7.heap.size + 1 + 1) (by simp) ?_); intro g3 cap w8 ho8 hg8 hat8 hlt8; obtain ⟨y0, p0, HJ⟩ := HM.out _ _ hg8 ho8; clear hg8)
        go_meet
        exact ⟨_, _, by simp, by simp; omega, HJ.out.mono (by omega)⟩
      · have n0 : ((r7 : Int) == 0) = false := by simp; omega
        go_wp2_with fail
        go_meet
        exact ⟨its2, _, by omega, by omega, hI7.mono (by omega)⟩
    case rest =>
      obtain ⟨its3, v3, hq1, hq2, hI9⟩ := hcut
      obtain ⟨a3, c3, rfl⟩ := own_form2 hI9.own
      obtain ⟨x0, _⟩ := one_factC hI9.box
      obtain ⟨y0, p0, z0, HX⟩ := HF.out _ _ _ _ _ hI9 (by omega) hq1 hq2
      clear hI9 hI7
      go_wp2
      exact bodyPost_ret (v := .agg #[.slice a3 its3.length c3]) (by simp [results, Tryd.results42, go_sem, z0]) rfl HX.out
end Go.Proofs.YtojmfcpkmknleaaDoor

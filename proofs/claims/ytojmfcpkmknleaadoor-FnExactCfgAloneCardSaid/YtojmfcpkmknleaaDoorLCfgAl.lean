/- The law on one house by itself, exact. -/
import Derived.Test.YtojmfcpkmknleaaDoorLCfgOk
import Derived.Test.YtojmfcpkmknleaaDoorCfgB4
namespace Go.Proofs.YtojmfcpkmknleaaDoor
open Go.RowKit Go.Maps

/-- One house or none, in blocks from B on and below C. -/
def RAh (w : World) (B C : Nat) (L : List Hs) (u : Value) : Prop :=
  (L = [] ∧ u = .slice none 0 0) ∨ ∃ g us h, L = [h] ∧ u = .slice (some ⟨g, 0, none⟩) 1 1 ∧ HF w B g 1 (hget [h]) us ∧ g < C ∧ ∀ b, (us 0).ownBlock = some b → b < C
/-- .. marked, the next mark being m. -/
def RMk (w : World) (B C : Nat) (L : List Hs) (u : Value) (m : Nat) : Prop :=
  (L = [] ∧ u = .slice none 0 0 ∧ m = 1) ∨ ∃ g us F0, u = .slice (some ⟨g, 0, none⟩) 1 1 ∧ HF w B g 1 (mkTo 1 F0 1) us ∧ m = kAt 1 F0 1 ∧ kAt 1 F0 1 < 10000000 ∧ g < C ∧ ∀ b, (us 0).ownBlock = some b → b < C
theorem RAh.row {w : World} {B C : Nat} {L : List Hs} {u : Value} (h : RAh w B C L u) : HRow w u L := by
  rcases h with ⟨rfl, rfl⟩ | ⟨g, us, x, rfl, rfl, hf, _⟩
  · exact ⟨none, 0, rfl, Nat.le_refl _, Nat.zero_le _, fun j f hj => by simp at hj⟩
  · exact HF.row (hs := [x]) hf (Nat.le_refl _) (by decide)
theorem rah_of {w : World} {B : Nat} {L : List Hs} {u : Value} (h : RAl w B L u) : RAh w B w.heap.size L u := by
  rcases h with h | ⟨g, us, x, e1, e2, hf⟩
  · exact .inl h
  · exact .inr ⟨g, us, x, e1, e2, hf, hf.lt, fun b hb => ((hf.2.2.1 0 (by decide)).1.lt b hb).2⟩
theorem hf1_same {w w' : World} {B C g : Nat} {F : Nat → Hs} {us : Nat → Value} (h : HF w B g 1 F us) (hg : g < C) (hu : ∀ b, (us 0).ownBlock = some b → b < C) (hk : ∀ b, B ≤ b → b < C → w'.heap[b]? = w.heap[b]?) : HF w' B g 1 F us :=
  h.same (hk g h.1 hg) fun i b hi hb => by
    have : i = 0 := by omega
    subst this
    exact hk b ((h.2.2.1 0 (by decide)).1.lt b hb).1 (hu b hb)
theorem RAh.same {w w' : World} {B C : Nat} {L : List Hs} {u : Value} (h : RAh w B C L u) (hk : ∀ b, B ≤ b → b < C → w'.heap[b]? = w.heap[b]?) : RAh w' B C L u := by
  rcases h with h | ⟨g, us, x, e1, e2, hf, hg, hu⟩
  · exact .inl h
  · exact .inr ⟨g, us, x, e1, e2, hf1_same hf hg hu hk, hg, hu⟩
theorem RMk.same {w w' : World} {B C m : Nat} {L : List Hs} {u : Value} (h : RMk w B C L u m) (hk : ∀ b, B ≤ b → b < C → w'.heap[b]? = w.heap[b]?) : RMk w' B C L u m := by
  rcases h with h | ⟨g, us, F0, e1, hf, e2, e3, hg, hu⟩
  · exact .inl h
  · exact .inr ⟨g, us, F0, e1, hf1_same hf hg hu hk, e2, e3, hg, hu⟩

/-- What is turned is in blocks from B on and below C. -/
def Mid (w w' : World) (B C : Nat) : Prop := w'.os = w.os ∧ w'.tape = w.tape ∧ w'.output = w.output ∧ w.heap.size ≤ w'.heap.size ∧ ∀ b, b < w.heap.size → (b < B ∨ C ≤ b) → w'.heap[b]? = w.heap[b]?
theorem Mid.below {w w' : World} {B C : Nat} (h : Mid w w' B C) (hB : B ≤ w.heap.size) : Below B w w' := ⟨h.1, h.2.1, h.2.2.1, h.2.2.2.1, fun b hb => h.2.2.2.2 b (by omega) (.inl hb)⟩
theorem mid_of_frm {w w' : World} {g n B C : Nat} {F : Nat → Hs} {us : Nat → Value} (h : Frm w w' g n us) (hf : HF w B g n F us) (hg : g < C) (hu : ∀ i b, i < n → (us i).ownBlock = some b → b < C) : Mid w w' B C :=
  ⟨h.1, h.2.1, h.2.2.1, h.2.2.2.1, fun b hb hout => h.2.2.2.2 b hb (fun e => by have := hf.1; omega) (fun i hi e => by have := ((hf.2.2.1 i hi).1.lt b e).1; have := hu i b hi e; omega)⟩
theorem mid_of_below {w w' : World} {B C : Nat} (h : Below w.heap.size w w') : Mid w w' B C := ⟨h.os, h.tape, h.output, h.size, fun b hb _ => h.block b hb⟩

theorem mark_ral {w : World} {B C : Nat} {L : List Hs} {u : Value} (h : RAh w B C L u) (hL : ∀ x ∈ L, x.names.length ≤ 3) :
    Calls Tryd.prog 22 #[.agg #[u], .int .i64 1] w fun e w' => ∃ m : Nat, e = .returned (.int .i64 (m : Int)) ∧ RMk w' B C L u m ∧ Mid w w' B C := by
  rcases h with ⟨rfl, rfl⟩ | ⟨g, us, x, rfl, rfl, hf, hg, hu⟩
  · exact (mark_none w 0).mono fun e w' h => ⟨1, h.1, .inl ⟨rfl, rfl, rfl⟩, mid_of_below h.2⟩
  · have hk : kAt 1 (hget [x]) 1 < 10000000 := by
      have := hL x (by simp)
      show 1 + (hget [x] 0).names.length + 3 < 10000000
      have e : hget [x] 0 = x := rfl
      rw [e]; omega
    refine (mark_cfg g 1 1 B (hget [x]) us w hf hk).mono fun e w' h => ⟨_, h.1, .inr ⟨g, us, hget [x], rfl, h.2.1, rfl, hk, hg, hu⟩, mid_of_frm h.2.2 hf hg fun i b hi hb => ?_⟩
    have : i = 0 := by omega
    subst this
    exact hu b hb
theorem held_ral {w : World} {B C m : Nat} {L : List Hs} {u : Value} (h : RMk w B C L u m) :
    Calls Tryd.prog 23 #[.agg #[u], .int .i64 1] w fun e w' => e = .returned (.int .i64 (m : Int)) ∧ Below w.heap.size w w' := by
  rcases h with ⟨rfl, rfl, rfl⟩ | ⟨g, us, F0, rfl, hf, rfl, hk, _⟩
  · exact held_none w 0
  · refine held_cfg g 1 1 B _ F0 us w hf (fun i hi => ?_) hk
    have : i = 0 := by omega
    subst this
    simp [mkTo]
theorem alone_small {hs : List Hs} {k : Int} : ∀ x ∈ aloneL hs k, x.names.length ≤ 3 := fun x hx => by
  unfold aloneL at hx
  split at hx
  · rename_i h
    have hkn : k.toNat < hs.length := by omega
    have e : x = hs[k.toNat] := by simpa [hget, hkn] using hx
    rw [e]
    exact (houseB_iff.1 ((cfgB_iff.1 h.1).2.1 _ (List.getElem_mem hkn))).1.2
  · cases hx

set_option maxRecDepth 100000 in
set_option maxHeartbeats 6400000 in
theorem law_cfgalone (hs : List Hs) (v : Value) (k : Int) (w : World) (hH : HRow w v hs) (hN : HOks hs maxLen) (hcls : Cls w) :
    Calls Tryd.prog 8 #[.agg #[v], .int .i64 k] w fun e w' => e = .returned (.bool true) ∧ Below w.heap.size w w' := by
  obtain ⟨wA, hwA⟩ : ∃ wA, wA = w.alloc (.cells #[v] 41) := ⟨_, rfl⟩
  have hsA : wA.heap.size = w.heap.size + 1 := by rw [hwA]; simp
  have hbA : Below w.heap.size w wA := by rw [hwA]; exact (Below.refl _ _).alloc (Nat.le_refl _) _
  have hX0 : wA.heap[w.heap.size]? = some (.cells #[v] 41 (0, 0)) := by rw [hwA]; exact heap_alloc_new w _
  have HX : Hid (∀ W, Below wA.heap.size wA W → Cls W ∧ HRow W v hs ∧ Below w.heap.size w W ∧ W.heap[w.heap.size]? = some (.cells #[v] 41 (0, 0))) := Lib.hid fun W hW => by
    have hb := hbA.trans (hW.mono (by omega))
    exact ⟨hcls.below hb (Nat.le_refl _), hH.below (Nat.le_refl _) hb, hb, (hW.block w.heap.size (by omega)).trans hX0⟩
  have hb0 : Below wA.heap.size wA wA := Below.refl _ _
  have hSz := szt_cfg v hs wA (HX.out _ hb0).2.1 hN
  obtain ⟨va, vc, rfl, _⟩ := hH
  obtain ⟨t0, _⟩ := one_fact hX0
  rw [hwA] at t0
  have HW := Lib.hid hwA
  clear hwA hbA hX0 hN hcls
  go_enter Tryd.func8, Tryd.ntmps8
  go_wp2_with fail
  rw [← HW.out]
  refine hSz.mono ?_
  rintro e w1 ⟨⟨r, rfl, hr⟩, hb1⟩
  clear hSz hb0 t0
  rcases hr with hr | ⟨hr, hz, hn, hm, htot⟩
  · have HB := Lib.hid (HX.out _ hb1).2.2.1
    clear hb1
    go_wp2
    go_ret
    exact ⟨rfl, HB.out⟩
  have i1 : ¬ r < 0 := by omega
  have HZ := Lib.hid hz
  have HM := Lib.hid hm
  have hkx : kAt 1 (hget hs) hs.length < 10000000 := by
    rw [kAt_names 1 hs hs.length (Nat.le_refl _), List.take_length]; omega
  have HKx := Lib.hid hkx
  have HSm := Lib.hid (alone_small (hs := hs) (k := k))
  clear hz hm htot hkx
  obtain ⟨k1, k2, k3, k4⟩ := HX.out _ hb1
  obtain ⟨q0, _⟩ := one_fact k4
  have hT1 := to_cfg _ hs w1 k2 hn HM.out
  clear k1 k2 k3 k4
  go_wp2_with fail
  refine hT1.mono ?_
  rintro e w2 ⟨g1, G1, rfl, ho1, hb2⟩
  have hb02 := hb1.trans (hb2.mono hb1.size)
  have hS2 := spec_alone hs _ k w2 (ho1.row hn HM.out) HZ.out
  clear hb1 hb2 hT1 ho1 q0
  obtain ⟨L, hL⟩ : ∃ L, L = aloneL hs k := ⟨_, rfl⟩
  rw [← hL] at hS2 HSm
  have HL := Lib.hid hL
  clear hL
  go_wp2_with fail
  refine hS2.mono ?_
  rintro e w3 ⟨u0, rfl, hr0, hb3⟩
  have hb03 := hb02.trans (hb3.mono hb02.size)
  have HR0 := hr0
  obtain ⟨a0, c0, rfl, _⟩ := hr0
  obtain ⟨w3b, hw3b⟩ : ∃ x, x = w3.alloc (.cells #[.slice a0 L.length c0] 25) := ⟨_, rfl⟩
  have hs3b : w3b.heap.size = w3.heap.size + 1 := by rw [hw3b]; simp
  have hb3b : Below w3.heap.size w3 w3b := by rw [hw3b]; exact (Below.refl _ _).alloc (Nat.le_refl _) _
  have hX6 : w3b.heap[w3.heap.size]? = some (.cells #[.slice a0 L.length c0] 25 (0, 0)) := by rw [hw3b]; exact heap_alloc_new w3 _
  have hb03b := hb03.trans (hb3b.mono hb03.size)
  have hr0b := HR0.below (Nat.le_refl _) hb3b
  have hz3 := hb03.size
  have HD : Hid (∀ W, Below w3b.heap.size w3b W → Cls W ∧ HRow W (.slice va hs.length vc) hs ∧ Below w.heap.size w W ∧ W.heap[w.heap.size]? = some (.cells #[.slice va hs.length vc] 41 (0, 0)) ∧ HRow W (.slice a0 L.length c0) L ∧ W.heap[w3.heap.size]? = some (.cells #[.slice a0 L.length c0] 25 (0, 0))) := Lib.hid fun W hW => by
    obtain ⟨k1, k2, k3, k4⟩ := HX.out W (hb03b.trans (hW.mono hb03b.size))
    exact ⟨k1, k2, k3, k4, hr0b.below (Nat.le_refl _) hW, (hW.block _ (by omega)).trans hX6⟩
  obtain ⟨k1, k2, k3, k4, _, _⟩ := HD.out w3b (Below.refl _ _)
  obtain ⟨q0, _⟩ := one_fact k4
  have hT3 := to_cfg _ hs w3b k2 hn HM.out
  rw [hw3b] at q0
  have HW3 := Lib.hid hw3b
  clear hw3b hb3 hS2 hb02 HR0 hb3b hX6 hb03b hr0b hb03 k1 k2 k3 k4
  go_wp2_with fail
  rw [← HW3.out]
  refine hT3.mono ?_
  rintro e w4 ⟨gx, Gx, rfl, ho4, hb4⟩
  have hz4 := hb4.size
  obtain ⟨w4b, hw4b⟩ : ∃ x, x = w4.alloc (.cells #[.slice (some ⟨gx, 0, none⟩) hs.length hs.length] 25) := ⟨_, rfl⟩
  have hs4b : w4b.heap.size = w4.heap.size + 1 := by rw [hw4b]; simp
  have hb4b : Below w4.heap.size w4 w4b := by rw [hw4b]; exact (Below.refl _ _).alloc (Nat.le_refl _) _
  have hX7 : w4b.heap[w4.heap.size]? = some (.cells #[.slice (some ⟨gx, 0, none⟩) hs.length hs.length] 25 (0, 0)) := by rw [hw4b]; exact heap_alloc_new w4 _
  have hD4b := hb4.trans (hb4b.mono hz4)
  have hfx4 := hf_of_own ho4 HM.out
  obtain ⟨usx, husx⟩ : ∃ usx : Nat → Value, usx = fun i => .slice (some ⟨Gx i, 0, none⟩) (hget hs i).names.length (hget hs i).names.length := ⟨_, rfl⟩
  rw [← husx] at hfx4
  have hgx4 := hfx4.lt
  have hux4 : ∀ i b, i < hs.length → (usx i).ownBlock = some b → b < w4.heap.size := fun i b hi hb => ((hfx4.2.2.1 i hi).1.lt b hb).2
  have hfx4b := hfx4.below hb4b
  obtain ⟨k1, k2, k3, k4, _, _⟩ := HD.out w4b hD4b
  have hI4 := impl_alone hs _ k w4b (hfx4b.row (Nat.le_refl _) (by unfold maxLen; omega)) HZ.out k1
  rw [← HL.out] at hI4
  obtain ⟨q0, _⟩ := one_fact hX7
  rw [hw4b] at q0
  have HW4 := Lib.hid hw4b
  have HUx := Lib.hid hux4
  clear hw4b hb4 ho4 hT3 hfx4 husx hux4 k1 k2 k3 k4 hb4b
  go_wp2_with fail
  rw [← HW4.out]
  refine hI4.mono ?_
  rintro e w5 ⟨u8, rfl, hal, hb5⟩
  have hz5 := hb5.size
  have hah := rah_of hal
  have hrow8 := hal.row
  obtain ⟨a8, c8, rfl, _⟩ := hrow8
  obtain ⟨w5b, hw5b⟩ : ∃ x, x = w5.alloc (.cells #[.slice a8 L.length c8] 25) := ⟨_, rfl⟩
  have hs5b : w5b.heap.size = w5.heap.size + 1 := by rw [hw5b]; simp
  have hb5b : Below w5.heap.size w5 w5b := by rw [hw5b]; exact (Below.refl _ _).alloc (Nat.le_refl _) _
  have hX8 : w5b.heap[w5.heap.size]? = some (.cells #[.slice a8 L.length c8] 25 (0, 0)) := by rw [hw5b]; exact heap_alloc_new w5 _
  have hb45 := hb5.trans (hb5b.mono hz5)
  have hD5 := hD4b.trans (hb45.mono hD4b.size)
  have hX7b := (hb45.block w4.heap.size (by omega)).trans hX7
  have hfx5 := hfx4b.below hb45
  have hah5 := hah.same (fun b _ hb => hb5b.block b hb)
  obtain ⟨k1, k2, k3, k4, k5, k6⟩ := HD.out w5b hD5
  have hE5 := eq_cfg _ _ L w5b hah5.row k5
  obtain ⟨q8, _⟩ := one_fact hX8
  obtain ⟨q6, _⟩ := one_fact k6
  rw [hw5b] at q8 q6
  have HW5 := Lib.hid hw5b
  clear hw5b hX7 hI4 hal hah hfx4b hb5 hb45 hD4b q0 k1 k2 k3 k4 k5 k6 hb5b
  go_wp2_with fail
  rw [← HW5.out]
  refine hE5.mono ?_
  rintro e w6 ⟨rfl, hb6⟩
  have hz6 := hb6.size
  have hD6 := hD5.trans (hb6.mono hD5.size)
  have hX76 := (hb6.block w4.heap.size (by omega)).trans hX7b
  have hX86 := (hb6.block w5.heap.size (by omega)).trans hX8
  have hfx6 := hfx5.below hb6
  have hah6 := hah5.same (fun b _ hb => hb6.block b (by omega))
  clear hE5 hD5 hX7b hX8 hfx5 hah5 hb6 q8 q6
  go_wp2_with fail
  have hF6 := hfx6.row (Nat.le_refl _) (by unfold maxLen; omega)
  have HC6 : Hid (∀ W, Below w6.heap.size w6 W → HRow W (.slice (some ⟨gx, 0, none⟩) hs.length hs.length) hs ∧ HRow W (.slice va hs.length vc) hs ∧ W.heap[w.heap.size]? = some (.cells #[.slice va hs.length vc] 41 (0, 0)) ∧ W.heap[w4.heap.size]? = some (.cells #[.slice (some ⟨gx, 0, none⟩) hs.length hs.length] 25 (0, 0))) := Lib.hid fun W hW => by
    obtain ⟨_, k2, _, k4, _⟩ := HD.out W (hD6.trans (hW.mono hD6.size))
    exact ⟨hF6.below (Nat.le_refl _) hW, k2, k4, (hW.block w4.heap.size (by omega)).trans hX76⟩
  clear hF6
  refine wp_region_last (by kernel_rfl) 4 (by kernel_rfl) (by kernel_rfl) (by kernel_rfl)
    (fun u => { tmps := #[.agg #[.slice va hs.length vc], .int .i64 k, .pointer (some ⟨w.heap.size, 0, none⟩), undef, .bool false, .int .i64 r, .pointer (some ⟨w3.heap.size, 0, none⟩), .pointer (some ⟨w4.heap.size, 0, none⟩), .pointer (some ⟨w5.heap.size, 0, none⟩), undef, undef, undef, undef, .agg #[.slice va hs.length vc], .int .i64 1048576, .int .i64 r, .int .i64 r, .bool (decide (r < 0)), .agg #[.slice va hs.length vc], .agg #[.slice (some ⟨g1, 0, none⟩) hs.length hs.length], .int .i64 k, .agg #[.slice a0 L.length c0], .agg #[.slice va hs.length vc], .agg #[.slice (some ⟨gx, 0, none⟩) hs.length hs.length], .agg #[.slice (some ⟨gx, 0, none⟩) hs.length hs.length], .int .i64 k, .agg #[.slice a8 L.length c8], .agg #[.slice a8 L.length c8], .agg #[.slice a0 L.length c0], .bool true, .bool false, u 0, u 1, u 2, u 3, undef, undef, undef, undef, undef, undef, undef, undef, undef, undef, undef, undef, undef, undef, undef, undef, undef, undef, undef, undef, undef, undef, undef, undef, undef, undef, undef, undef, undef, undef, undef, undef, undef, undef, undef, undef, undef, undef, undef], defers := [] })
    (fun _ W => Below w6.heap.size w6 W)
    (RAt [REq (.agg #[.slice (some ⟨gx, 0, none⟩) hs.length hs.length]), REq (.agg #[.slice va hs.length vc]), RCf hs, REq (.bool true)])
    (fun w w' => Below w.heap.size w w') (fun _ => undef) (Below.refl _ _).drew
    (fun i v w w' _ hR hle => steady_at (by exact ⟨steady_eq _, steady_eq _, steady_cf hs, steady_eq _, trivial⟩) v w w' hR hle) ?_ ?_
  · intro i hi u w7 kk hkk hC hd
    obtain ⟨k1, k2, k4, k5⟩ := HC6.out _ hC
    obtain ⟨q0, _⟩ := one_fact k4
    obtain ⟨t0, _⟩ := one_fact k5
    match i, hi with
    | 0, _ =>
      refine wpOp_step rfl (fun K hK => ?_)
      clear hd
      go_simp
      exact hK _ _ ⟨_, rfl, rfl, Below.refl _ _, hC⟩
    | 1, _ =>
      refine wpOp_step rfl (fun K hK => ?_)
      clear hd
      go_simp
      exact hK _ _ ⟨_, rfl, rfl, Below.refl _ _, hC⟩
    | 2, _ =>
      have e1 : u 1 = .agg #[.slice va hs.length vc] := hd 1 (dep_of (by kernel_rfl))
      have hT := to_cfg _ hs w7 k2 hn HM.out
      refine wpOp_step rfl (fun K hK => ?_)
      clear hd
      go_simp
      refine hT.mono ?_
      rintro e w8 ⟨g2, G2, rfl, ho8, hb8⟩
      exact hK _ _ ⟨_, by simp [upd, e1], ⟨_, _, rfl, ho8.row hn HM.out⟩, hb8, hC.trans (hb8.mono hC.size)⟩
    | 3, _ =>
      have e0 : u 0 = .agg #[.slice (some ⟨gx, 0, none⟩) hs.length hs.length] := hd 0 (dep_of (by kernel_rfl))
      obtain ⟨a2, c2, e2, hr2⟩ : RCf hs (u 2) w7 := hd 2 (dep_of (by kernel_rfl))
      have hE := eq_cfg _ _ hs w7 k1 hr2
      refine wpOp_step rfl (fun K hK => ?_)
      clear hd
      go_simp
      refine hE.mono ?_
      rintro e w8 ⟨rfl, hb8⟩
      exact hK _ _ ⟨_, by simp [upd, e0, e2], rfl, hb8, hC.trans (hb8.mono hC.size)⟩
  · intro u w7 kk hkk hC hd
    have e3 : u 3 = .bool true := hd 3 (by decide)
    refine wpOp_step rfl (fun K hK => ?_)
    clear hd
    go_simp
    refine hK _ _ ?_
    clear hK K e3 HC6
    have hD7 := hD6.trans (hC.mono hD6.size)
    have hX77 := (hC.block w4.heap.size (by omega)).trans hX76
    have hX87 := (hC.block w5.heap.size (by omega)).trans hX86
    have hfx7 := hfx6.below hC
    have hah7 := hah6.same (fun b _ hb => hC.block b (by omega))
    have hz7 := hC.size
    have hMk := mark_cfg gx hs.length hs.length w3b.heap.size (hget hs) usx w7 hfx7 HKx.out
    have hgx7 : gx < w4.heap.size := hgx4
    have hpos := hD7.size
    obtain ⟨t7, _⟩ := one_fact hX77
    have HF7 := Lib.hid hfx7
    have HKn : Hid (¬ (((kAt 1 (hget hs) hs.length : Nat) : Int) < 0)) := Lib.hid (by omega)
    clear hD6 hX76 hX86 hfx6 hah6 hC hfx7
    generalize hkm : kAt 1 (hget hs) hs.length = km at *
    go_wp2_with fail
    refine hMk.mono ?_
    rintro e w8 ⟨rfl, _, hfr8⟩
    have hmid := mid_of_frm hfr8 HF7.out hgx7 HUx.out
    have hb8 := hmid.below hpos
    have hD8 := hD7.trans hb8
    have hX78 := (hmid.2.2.2.2 w4.heap.size (by omega) (.inr (Nat.le_refl _))).trans hX77
    have hX88 := (hmid.2.2.2.2 w5.heap.size (by omega) (.inr (by omega))).trans hX87
    have hah8 := hah7.same (fun b hb hb2 => hmid.2.2.2.2 b (by omega) (.inr (by omega)))
    have hz8 := hmid.2.2.2.1
    obtain ⟨k1, k2, k3, k4, k5, k6⟩ := HD.out w8 hD8
    have hE8 := eq_cfg _ _ L w8 hah8.row k5
    obtain ⟨q6, _⟩ := one_fact k6
    obtain ⟨q8, _⟩ := one_fact hX88
    have i2 := HKn.out
    clear hMk hfr8 hmid hb8 hD7 hX77 hX87 hah7 k1 k2 k3 k4 k5 k6 t7
    go_wp2_with fail
    refine hE8.mono ?_
    rintro e w9 ⟨rfl, hb9⟩
    have hz9 := hb9.size
    have hD9 := hD8.trans (hb9.mono hD8.size)
    have hX89 := (hb9.block w5.heap.size (by omega)).trans hX88
    have hah9 := hah8.same (fun b _ hb => hb9.block b (by omega))
    have hMr := mark_ral hah9 HSm.out
    clear hE8 hD8 hX78 hX88 hah8 hb9 q6 q8 i2
    obtain ⟨q8, _⟩ := one_fact hX89
    go_wp2_with fail
    refine hMr.mono ?_
    rintro e w10 ⟨m, rfl, hmk10, hmid⟩
    have hz10 := hmid.2.2.2.1
    have hb10 := (hmid.below (by omega)).mono (show w3b.heap.size ≤ w4b.heap.size by omega)
    have hD10 := hD9.trans hb10
    have hX810 := (hmid.2.2.2.2 w5.heap.size (by omega) (.inr (Nat.le_refl _))).trans hX89
    have hHl := held_ral hmk10
    clear hMr hmid hb10 hD9 hX89 hah9 q8
    obtain ⟨q8, _⟩ := one_fact hX810
    go_wp2_with fail
    refine hHl.mono ?_
    rintro e w11 ⟨rfl, hb11⟩
    have hz11 := hb11.size
    have hD11 := hD10.trans (hb11.mono hD10.size)
    have hX811 := (hb11.block w5.heap.size (by omega)).trans hX810
    have hmk11 := hmk10.same (fun b _ hb => hb11.block b (by omega))
    have i3 : ¬ ((m : Int) < 0) := by omega
    obtain ⟨k1, k2, k3, k4, k5, k6⟩ := HD.out w11 hD11
    obtain ⟨q0, _⟩ := one_fact k4
    have hT11 := to_cfg _ hs w11 k2 hn HM.out
    clear hHl hb11 hD10 hX810 hmk10 k1 k2 k3 k4 k5 k6 q8
    go_wp2_with fail
    refine hT11.mono ?_
    rintro e w12 ⟨g12, G12, rfl, ho12, hb12⟩
    have hz12 := hb12.size
    have hD12 := hD11.trans (hb12.mono hD11.size)
    have hX812 := (hb12.block w5.heap.size (by omega)).trans hX811
    have hmk12 := hmk11.same (fun b _ hb => hb12.block b (by omega))
    obtain ⟨k1, k2, k3, k4, k5, k6⟩ := HD.out w12 hD12
    have hI12 := impl_alone hs _ k w12 (ho12.row hn HM.out) HZ.out k1
    rw [← HL.out] at hI12
    clear hT11 hb12 hD11 hX811 hmk11 ho12 k1 k2 k3 k4 k5 k6 q0
    go_wp2_with fail
    refine hI12.mono ?_
    rintro e w13 ⟨uh, rfl, halh, hb13⟩
    have hz13 := hb13.size
    have hrowh := halh.row
    have hrowh2 := hrowh
    obtain ⟨ah, ch, rfl, _⟩ := hrowh2
    obtain ⟨w14, hw14⟩ : ∃ x, x = w13.alloc (.cells #[.slice ah L.length ch] 25) := ⟨_, rfl⟩
    have hs14 : w14.heap.size = w13.heap.size + 1 := by rw [hw14]; simp
    have hb14 : Below w13.heap.size w13 w14 := by rw [hw14]; exact (Below.refl _ _).alloc (Nat.le_refl _) _
    have hX14 : w14.heap[w13.heap.size]? = some (.cells #[.slice ah L.length ch] 25 (0, 0)) := by rw [hw14]; exact heap_alloc_new w13 _
    have hb1214 := hb13.trans (hb14.mono hz13)
    have hD14 := hD12.trans (hb1214.mono hD12.size)
    have hX814 := (hb1214.block w5.heap.size (by omega)).trans hX812
    have hmk14 := hmk12.same (fun b _ hb => hb1214.block b (by omega))
    obtain ⟨k1, k2, k3, k4, k5, k6⟩ := HD.out w14 hD14
    have hE14 := eq_cfg _ _ L w14 (hrowh.below (Nat.le_refl _) hb14) k5
    obtain ⟨q6, _⟩ := one_fact k6
    obtain ⟨q14, _⟩ := one_fact hX14
    rw [hw14] at q6 q14
    have HW14 := Lib.hid hw14
    clear hw14 hI12 hb13 hb14 hb1214 hD12 hX812 hmk12 halh hrowh k1 k2 k3 k4 k5 k6
    go_wp2_with fail
    rw [← HW14.out]
    refine hE14.mono ?_
    rintro e w15 ⟨rfl, hb15⟩
    have hz15 := hb15.size
    have hD15 := hD14.trans (hb15.mono hD14.size)
    have hX815 := (hb15.block w5.heap.size (by omega)).trans hX814
    have hmk15 := hmk14.same (fun b _ hb => hb15.block b (by omega))
    have hHl := held_ral hmk15
    clear hE14 hb15 hD14 hX814 hmk14 hX14 q6 q14
    obtain ⟨q8, _⟩ := one_fact hX815
    go_wp2_with fail
    refine hHl.mono ?_
    rintro e w16 ⟨rfl, hb16⟩
    have hfin := (HD.out w16 (hD15.trans (hb16.mono hD15.size))).2.2.1
    clear hHl hb16 hD15 hX815 hmk15 q8
    go_wp2
    go_ret
    exact ⟨rfl, hfin⟩
namespace Lw
theorem fnExactCfgAlone (w : World) (hL : laidMetH Tryd.prog Rows.fnExactCfgAloneRow.laid w) (v : Value) (hs : List Hs) (hH : HRow w v hs) (hN : HOks hs maxLen) (k : Int) (_hk : (Lit.int .i64 k).wf = true) :
    Calls Tryd.prog 8 #[.agg #[v], .int .i64 k] w fun e w' => e = .returned (.bool true) ∧ Below w.heap.size w w' :=
  law_cfgalone hs v k w hH hN (cls_of_head hL)
end Lw
end Go.Proofs.YtojmfcpkmknleaaDoor

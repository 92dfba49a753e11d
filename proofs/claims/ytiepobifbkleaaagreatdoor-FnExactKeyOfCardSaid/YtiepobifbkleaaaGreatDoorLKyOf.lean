/- The law on the key of a request, exact. -/
import Derived.Test.YtiepobifbkleaaaGreatDoorGKyL
import Derived.Test.YtiepobifbkleaaaGreatDoorKyOfI
import Derived.Test.YtiepobifbkleaaaGreatDoorKyOfS
namespace Go.Proofs.YtiepobifbkleaaaGreatDoor
open Go.RowKit Go.Maps

set_option maxRecDepth 100000 in
set_option maxHeartbeats 12800000 in
theorem law_keyof (hs : List Hs) (v : Value) (h : Hd) (u : Value) (w : World) (hH : HRow w v hs) (hN : HOks hs maxLen) (hF : FRow w u h.fs) (hok : FOk h.fs maxLen) (b1 : h.verb.size ≤ maxLen) (b2 : h.target.size ≤ maxLen) (b3 : h.host.size ≤ maxLen) (b4 : h.body.size ≤ maxLen) (hE : Env w) :
    Calls Tryz.prog 9 #[.agg #[v], headV h u] w fun e w' => e = .returned (.bool true) ∧ Below w.heap.size w w' := by
  obtain ⟨hz2, hb2, hA0, hA1⟩ := box2_new w (.cells #[v] 65) (.cells #[.string h.verb, .string h.target, .string h.host, u, .string h.body] 68)
  obtain ⟨wA, hwA⟩ : ∃ wA, wA = (w.alloc (.cells #[v] 65)).alloc (.cells #[.string h.verb, .string h.target, .string h.host, u, .string h.body] 68) := ⟨_, rfl⟩
  rw [← hwA] at hz2 hb2 hA0 hA1
  have HX : Hid (∀ W, Below wA.heap.size wA W → Env W ∧ HRow W v hs ∧ FRow W u h.fs ∧ Below w.heap.size w W ∧ W.heap[w.heap.size]? = some (.cells #[v] 65 (0, 0)) ∧ W.heap[w.heap.size + 1]? = some (.cells #[.string h.verb, .string h.target, .string h.host, u, .string h.body] 68 (0, 0))) := Lib.hid fun W hW => by
    have hb := hb2.trans (hW.mono (by omega))
    exact ⟨hE.below hb (Nat.le_refl _), hH.below (Nat.le_refl _) hb, hF.below (Nat.le_refl _) hb, hb, (hW.block _ (by omega)).trans hA0, (hW.block _ (by omega)).trans hA1⟩
  have hb0 : Below wA.heap.size wA wA := Below.refl _ _
  have hSz := szt_cfg v hs wA (HX.out _ hb0).2.1 hN
  have HSH : Hid (∀ L W, 0 ≤ L → L ≤ 1048576 → FRow W u h.fs → Calls Tryz.prog 39 #[headV h u, .int .i64 L] W fun e w' => (∃ r : Int, e = .returned (.int .i64 r) ∧ (r < 0 ∨ (0 ≤ r ∧ HSz h))) ∧ Below W.heap.size W w') := Lib.hid fun L W h0 h1 hf => sz_headL L h0 h1 h u W hf hok b1 b2 b3 b4
  obtain ⟨va, vc, rfl, _⟩ := hH
  obtain ⟨ua, uc, rfl, _⟩ := hF
  obtain ⟨hverb, target, host, fs, body⟩ := h
  unfold headV at HSH ⊢
  dsimp only at *
  obtain ⟨t0, _⟩ := one_fact hA0
  obtain ⟨t1, t2, t3, t4, t5, _⟩ := five_facts hA1
  rw [hwA] at t0 t1 t2 t3 t4 t5
  have HW := Lib.hid hwA
  clear hwA hb2 hA0 hA1 hN hok b1 b2 b3 b4 hE
  go_enter Tryz.func9, Tryz.ntmps9
  go_wp2_with fail
  rw [← HW.out]
  refine hSz.mono ?_
  rintro e w1 ⟨⟨r, rfl, hr⟩, hb1⟩
  clear hSz hb0 t0 t1 t2 t3 t4 t5
  rcases hr with hr | ⟨hr, hz, hn, hm, htot⟩
  · have HB := Lib.hid (HX.out _ hb1).2.2.2.1
    clear hb1
    go_wp2
    go_ret
    exact ⟨rfl, HB.out⟩
  have i1 : ¬ r < 0 := by omega
  have HZ := Lib.hid hz
  have HM := Lib.hid hm
  obtain ⟨_, _, kf, _, _, k5⟩ := HX.out _ hb1
  obtain ⟨t1, t2, t3, t4, t5, _⟩ := five_facts k5
  have hS2 := HSH.out r w1 hr (by omega) kf
  clear hz hm htot kf k5
  go_wp2_with fail
  refine hS2.mono ?_
  rintro e w2 ⟨⟨r2, rfl, hr2⟩, hb2⟩
  have hb02 := hb1.trans (hb2.mono hb1.size)
  clear hS2 hb1 hb2 t1 t2 t3 t4 t5
  rcases hr2 with hr2 | ⟨hr2, hsz⟩
  · have HB := Lib.hid (HX.out _ hb02).2.2.2.1
    clear hb02
    go_wp2
    go_ret
    exact ⟨rfl, HB.out⟩
  have i2 : ¬ r2 < 0 := by omega
  have hlen := hsz.len
  dsimp only at hlen
  have hdz : HdSz ⟨hverb, target, host, fs, body⟩ := ⟨hsz.verb, hsz.target, hsz.host, hsz.body, hsz.fs, by have := hsz.len; dsimp only at this ⊢; omega⟩
  have HT : Hid (∀ W, FRow W (.slice ua fs.length uc) fs → Calls Tryz.prog 41 #[.agg #[.string hverb, .string target, .string host, .slice ua fs.length uc, .string body]] W fun e w' => (∃ g, e = .returned (.agg #[.string hverb, .string target, .string host, .slice (some ⟨g, 0, none⟩) fs.length fs.length, .string body]) ∧ FRow w' (.slice (some ⟨g, 0, none⟩) fs.length fs.length) fs ∧ g < w'.heap.size) ∧ Below W.heap.size W w') := Lib.hid fun W hf => by
    refine (to_head ⟨hverb, target, host, fs, body⟩ _ W hf hlen).mono ?_
    rintro e w' ⟨⟨g, rfl, _, hc⟩, hb⟩
    exact ⟨⟨g, rfl, hc.row (by unfold maxLen; dsimp only; omega), hc.lt⟩, hb⟩
  have HSp : Hid (∀ x y W, HRow W x hs → FRow W y fs → Calls Tryz.prog 23 #[.agg #[x], .agg #[.string hverb, .string target, .string host, y, .string body]] W fun e w' => e = .returned (.tuple #[keyV (keyOf hs ⟨hverb, target, host, fs, body⟩).1, .bool (keyOf hs ⟨hverb, target, host, fs, body⟩).2]) ∧ Below W.heap.size W w') := Lib.hid fun x y W hx hy => spec_keyof hs x ⟨hverb, target, host, fs, body⟩ y W hx HZ.out hy hdz
  have HIm : Hid (∀ x y W, HRow W x hs → FRow W y fs → Env W → Calls Tryz.prog 22 #[.agg #[x], .agg #[.string hverb, .string target, .string host, y, .string body]] W fun e w' => e = .returned (.tuple #[keyV (keyOf hs ⟨hverb, target, host, fs, body⟩).1, .bool (keyOf hs ⟨hverb, target, host, fs, body⟩).2]) ∧ Below W.heap.size W w') := Lib.hid fun x y W hx hy hc => impl_keyof hs x ⟨hverb, target, host, fs, body⟩ y W hx HZ.out hy hdz hc
  generalize keyOf hs ⟨hverb, target, host, fs, body⟩ = KR at *
  obtain ⟨⟨kh, kp, km⟩, ok⟩ := KR
  have HEQ := Lib.hid fun W => eq_key ⟨kh, kp, km⟩ W
  unfold keyV at HSp HIm HEQ
  dsimp only at HSp HIm HEQ
  have eX := bne_self ok
  have HHE : Hid (∀ y1 y2 W, FRow W y1 fs → FRow W y2 fs → Calls Tryz.prog 44 #[.agg #[.string hverb, .string target, .string host, y1, .string body], .agg #[.string hverb, .string target, .string host, y2, .string body]] W fun e w' => e = .returned (.bool true) ∧ Below W.heap.size W w') := Lib.hid fun y1 y2 W h1 h2 => eq_head ⟨hverb, target, host, fs, body⟩ y1 y2 W h1 h2 (by dsimp only; omega)
  clear hdz hsz
  go_wp2_with fail
  have HSt : Hid (∀ (b : Nat) (W W' : World), W.heap[b]? = some (.cells #[.int .i64 kh, .string kp, .int .i64 km] 27 (0, 0)) → Below W.heap.size W W' → W'.heap[b]? = some (.cells #[.int .i64 kh, .string kp, .int .i64 km] 27 (0, 0))) := Lib.hid fun b W W' h hb => heap_keep hb (Nat.le_refl _) _ _ h
  refine wp_region_lastU (by kernel_rfl) 10 (by kernel_rfl) (by kernel_rfl) (by kernel_rfl)
    (fun u => { tmps := #[.agg #[.slice va hs.length vc], .agg #[.string hverb, .string target, .string host, .slice ua fs.length uc, .string body], .pointer (some ⟨w.heap.size, 0, none⟩), .pointer (some ⟨w.heap.size + 1, 0, none⟩), .bool false, .int .i64 r2, u 8, undef, undef, undef, undef, undef, .agg #[.slice va hs.length vc], .int .i64 1048576, .int .i64 r, .int .i64 r, .bool (decide (r < 0)), .agg #[.string hverb, .string target, .string host, .slice ua fs.length uc, .string body], .int .i64 r, .int .i64 r2, .int .i64 r2, .bool (decide (r2 < 0)), u 5, u 0, u 1, u 2, u 3, u 4, u 6, u 7, undef, undef, undef, undef, undef, undef, undef, undef, undef, undef, undef, undef, undef, undef, undef, undef, undef, undef, undef, undef, undef, undef, undef, undef, undef, undef, undef, undef, undef], defers := [] })
    (fun L u W => CU w2 8 9 #[.int .i64 0, .string ⟨#[]⟩, .int .i64 0] 27 (fun b W => W.heap[b]? = some (.cells #[.int .i64 kh, .string kp, .int .i64 km] 27 (0, 0))) L u W)
    (RU [(fun v _ => v = .agg #[.slice va hs.length vc]), (fun _ _ => True), (fun v _ => v = .agg #[.string hverb, .string target, .string host, .slice ua fs.length uc, .string body]), (fun _ _ => True), (fun v _ => v = .tuple #[.agg #[.int .i64 kh, .string kp, .int .i64 km], .bool ok]), (fun v _ => v = .tuple #[.agg #[.int .i64 kh, .string kp, .int .i64 km], .bool ok]), (fun v _ => v = .agg #[.int .i64 kh, .string kp, .int .i64 km]), (fun v _ => v = .bool ok), (fun _ _ => True), (fun _ _ => True)] [(fun _ _ => True), KCf hs, (fun _ _ => True), RHd ⟨hverb, target, host, fs, body⟩, (fun _ _ => True), (fun _ _ => True), (fun _ _ => True), (fun _ _ => True), (fun _ _ => True), (fun _ _ => True)] 9)
    (fun j w w' => j = 9 ∨ Below w.heap.size w w') (fun _ => undef) ⟨(Below.refl _ _).drew, fun h => h.elim⟩
    (fun i j L v w1 w2 _ _ hij _ _ _ _ hR hle => ru_stay (by exact ⟨blank_eq _, blank_t, blank_eq _, blank_t, blank_eq _, blank_eq _, blank_eq _, blank_eq _, blank_t, blank_t, trivial⟩) (by exact ⟨steadyr_t, steady_kcf hs, steadyr_t, steady_hd ⟨hverb, target, host, fs, body⟩, steadyr_t, steadyr_t, steadyr_t, steadyr_t, steadyr_t, steadyr_t, trivial⟩) hR hle) ?_ ?_
  · intro i hi L u w7 hL hcl hdl hC hd
    obtain ⟨_, k2, k3, _, k4, k5⟩ := HX.out _ (hb02.trans (hC.1.mono hb02.size))
    obtain ⟨t0, _⟩ := one_fact k4
    obtain ⟨t1, t2, t3, t4, t5, _⟩ := five_facts k5
    match i, hi with
    | 0, _ =>
      refine wpOp_step rfl (fun K hK => ?_)
      clear hd
      go_simp
      exact hK _ _ ⟨_, rfl, ⟨rfl, fun _ => trivial⟩, .inr (Below.refl _ _), hC.same (by decide) (by decide) _⟩
    | 1, _ =>
      have e0 : u 0 = .agg #[.slice va hs.length vc] := (hd 0 (dep_of (by kernel_rfl))).1
      have hT := to_cfg _ hs w7 k2 hn HM.out
      refine wpOp_step rfl (fun K hK => ?_)
      clear hd
      go_simp
      refine hT.mono ?_
      rintro e w8 ⟨g2, G2, rfl, ho8, hb8⟩
      exact hK _ _ ⟨_, by simp [upd, e0], ⟨trivial, fun _ => ⟨_, _, rfl, ho8.row hn HM.out⟩⟩, .inr hb8, hC.keep (by decide) (by decide) (fun _ h => HSt.out _ _ _ h hb8) hb8 _⟩
    | 2, _ =>
      refine wpOp_step rfl (fun K hK => ?_)
      clear hd
      go_simp
      exact hK _ _ ⟨_, rfl, ⟨rfl, fun _ => trivial⟩, .inr (Below.refl _ _), hC.same (by decide) (by decide) _⟩
    | 3, _ =>
      have e2 : u 2 = .agg #[.string hverb, .string target, .string host, .slice ua fs.length uc, .string body] := (hd 2 (dep_of (by kernel_rfl))).1
      have hT := HT.out w7 k3
      refine wpOp_step rfl (fun K hK => ?_)
      clear hd
      go_simp
      refine hT.mono ?_
      rintro e w8 ⟨⟨g2, rfl, hf8, _⟩, hb8⟩
      exact hK _ _ ⟨_, by simp [upd, e2], ⟨trivial, fun _ => ⟨_, rfl, hf8⟩⟩, .inr hb8, hC.keep (by decide) (by decide) (fun _ h => HSt.out _ _ _ h hb8) hb8 _⟩
    | 4, _ =>
      have hq : ¬ L 9 := fun h => hL (hcl 5 (hcl 6 (hcl 9 h 6 (dep_of (by kernel_rfl))) 5 (dep_of (by kernel_rfl))) 4 (dep_of (by kernel_rfl)))
      obtain ⟨a1, c1, e1, hr1⟩ : KCf hs (u 1) w7 := (hd 1 (dep_of (by kernel_rfl))).2 hq
      obtain ⟨g3, e3, hr3⟩ : RHd ⟨hverb, target, host, fs, body⟩ (u 3) w7 := (hd 3 (dep_of (by kernel_rfl))).2 hq
      dsimp only at e3 hr3
      have hT := HSp.out _ _ w7 hr1 hr3
      refine wpOp_step rfl (fun K hK => ?_)
      clear hd
      go_simp
      refine hT.mono ?_
      rintro e w8 ⟨rfl, hb8⟩
      exact hK _ _ ⟨_, by simp [upd, e1, e3], ⟨rfl, fun _ => trivial⟩, .inr hb8, hC.keep (by decide) (by decide) (fun _ h => HSt.out _ _ _ h hb8) hb8 _⟩
    | 5, _ =>
      have e4 : u 4 = .tuple #[.agg #[.int .i64 kh, .string kp, .int .i64 km], .bool ok] := (hd 4 (dep_of (by kernel_rfl))).1
      refine wpOp_step rfl (fun K hK => ?_)
      clear hd
      go_simp
      exact hK _ _ ⟨_, by simp [upd, e4], ⟨rfl, fun _ => trivial⟩, .inr (Below.refl _ _), hC.same (by decide) (by decide) _⟩
    | 6, _ =>
      have e5 : u 5 = .tuple #[.agg #[.int .i64 kh, .string kp, .int .i64 km], .bool ok] := (hd 5 (dep_of (by kernel_rfl))).1
      refine wpOp_step rfl (fun K hK => ?_)
      clear hd
      go_simp
      exact hK _ _ ⟨_, by simp [upd, e5], ⟨rfl, fun _ => trivial⟩, .inr (Below.refl _ _), hC.same (by decide) (by decide) _⟩
    | 7, _ =>
      have e5 : u 5 = .tuple #[.agg #[.int .i64 kh, .string kp, .int .i64 km], .bool ok] := (hd 5 (dep_of (by kernel_rfl))).1
      refine wpOp_step rfl (fun K hK => ?_)
      clear hd
      go_simp
      exact hK _ _ ⟨_, by simp [upd, e5], ⟨rfl, fun _ => trivial⟩, .inr (Below.refl _ _), hC.same (by decide) (by decide) _⟩
    | 8, _ =>
      have hq : ¬ L 9 := fun h => hL (hcl 9 h 8 (dep_of (by kernel_rfl)))
      refine wpOp_step rfl (fun K hK => ?_)
      clear hd
      go_simp
      exact hK _ _ ⟨_, rfl, ⟨trivial, fun _ => trivial⟩, .inr ((Below.refl _ _).alloc (Nat.le_refl _) _), hC.make (by decide) hq⟩
    | 9, _ =>
      obtain ⟨b, hu, hbB, hzz, _⟩ := hC.2 (hdl 8 (dep_of (by kernel_rfl)))
      have hc := hzz hL
      have e6 : u 6 = .agg #[.int .i64 kh, .string kp, .int .i64 km] := (hd 6 (dep_of (by kernel_rfl))).1
      obtain ⟨y0, y1, y2, f0, f1, f2⟩ := three_facts hc
      refine wpOp_step rfl (fun K hK => ?_)
      clear hd
      go_simp
      exact hK _ _ ⟨undef, by simp [upd, hu, e6], ⟨trivial, fun _ => trivial⟩, .inl rfl, hC.told (by decide) hu hbB (grown_set3 _ _ _ _ _) (three_set hc _ _ _) _⟩
  · intro L uz w7 hC hall _ hd
    have e7 : uz 7 = .bool ok := (hd 7 (by decide)).1
    obtain ⟨c8, hu, hbB, _, hst⟩ := hC.2 (hall 8 (by decide))
    have hz := hst (hall 9 (by decide))
    have hD := hb02.trans (hC.1.mono hb02.size)
    obtain ⟨W8, hW8⟩ : ∃ W8, W8 = w7 := ⟨_, rfl⟩
    rw [← hW8] at hz hD
    have hcl : c8 < W8.heap.size := (Array.getElem?_eq_some_iff.1 hz).1
    have HD8 := Lib.hid hD; have HZ8 := Lib.hid hz
    rw [← hW8]
    clear hW8 hD hz hd hC hst hall
    refine wpOp_step rfl (fun K hK => ?_)
    go_simp
    refine hK _ _ ?_
    clear hK K e7 hu
    have HX8 : Hid (∀ W, Below W8.heap.size W8 W → Env W ∧ HRow W (.slice va hs.length vc) hs ∧ FRow W (.slice ua fs.length uc) fs ∧ Below w.heap.size w W ∧ W.heap[w.heap.size]? = some (.cells #[.slice va hs.length vc] 65 (0, 0)) ∧ W.heap[w.heap.size + 1]? = some (.cells #[.string hverb, .string target, .string host, .slice ua fs.length uc, .string body] 68 (0, 0)) ∧ W.heap[c8]? = some (.cells #[.int .i64 kh, .string kp, .int .i64 km] 27 (0, 0))) := Lib.hid fun W hW => by
      obtain ⟨a1, a2, a3, a4, a5, a6⟩ := HX.out _ (HD8.out.trans (hW.mono HD8.out.size))
      exact ⟨a1, a2, a3, a4, a5, a6, heap_keep hW (Nat.le_refl _) _ _ HZ8.out⟩
    have hb8 : Below W8.heap.size W8 W8 := Below.refl _ _
    obtain ⟨_, k2, _, _, k4, _⟩ := HX8.out _ hb8
    obtain ⟨t0, _⟩ := one_fact k4
    have hT := to_cfg _ hs W8 k2 hn HM.out
    clear k2 k4
    go_wp2_with fail
    refine hT.mono ?_
    rintro e w9 ⟨gx, Gx, rfl, ho9, hb9⟩
    obtain ⟨w9b, hw9b⟩ : ∃ x, x = w9.alloc (.cells #[.slice (some ⟨gx, 0, none⟩) hs.length hs.length] 25) := ⟨_, rfl⟩
    have hs9b : w9b.heap.size = w9.heap.size + 1 := by rw [hw9b]; simp
    have hb9b : Below w9.heap.size w9 w9b := by rw [hw9b]; exact (Below.refl _ _).alloc (Nat.le_refl _) _
    have hY9 : w9b.heap[w9.heap.size]? = some (.cells #[.slice (some ⟨gx, 0, none⟩) hs.length hs.length] 25 (0, 0)) := by rw [hw9b]; exact heap_alloc_new w9 _
    have hD9 := hb9.trans (hb9b.mono hb9.size)
    have hr9 := (ho9.below (Nat.le_refl _) hb9b).row hn HM.out
    obtain ⟨_, _, k3, _, _, k5, _⟩ := HX8.out _ hD9
    obtain ⟨t1, t2, t3, t4, t5, _⟩ := five_facts k5
    have hT2 := HT.out w9b k3
    have HW9 := Lib.hid hw9b
    rw [hw9b] at t1 t2 t3 t4 t5 hT2
    clear hT hb8 t0 ho9 hb9 hw9b hb9b k3 k5
    go_wp2_with fail
    refine hT2.mono ?_
    rintro e w10 ⟨⟨gy, rfl, hf10, hgy⟩, hb10⟩
    rw [← HW9.out] at hb10
    obtain ⟨w10b, hw10b⟩ : ∃ x, x = w10.alloc (.cells #[.string hverb, .string target, .string host, .slice (some ⟨gy, 0, none⟩) fs.length fs.length, .string body] 40) := ⟨_, rfl⟩
    have hs10b : w10b.heap.size = w10.heap.size + 1 := by rw [hw10b]; simp
    have hb10b : Below w10.heap.size w10 w10b := by rw [hw10b]; exact (Below.refl _ _).alloc (Nat.le_refl _) _
    have hY10 : w10b.heap[w10.heap.size]? = some (.cells #[.string hverb, .string target, .string host, .slice (some ⟨gy, 0, none⟩) fs.length fs.length, .string body] 40 (0, 0)) := by rw [hw10b]; exact heap_alloc_new w10 _
    have hE10 := hb10.trans (hb10b.mono hb10.size)
    have hD10 := hD9.trans (hE10.mono hD9.size)
    have hf11 := hf10.below (Nat.le_refl _) hb10b
    have hz10 := hb10.size
    have HXA : Hid (∀ W, Below w10b.heap.size w10b W → (Env W ∧ Below w.heap.size w W) ∧ HRow W (.slice va hs.length vc) hs ∧ FRow W (.slice ua fs.length uc) fs ∧ HRow W (.slice (some ⟨gx, 0, none⟩) hs.length hs.length) hs ∧ FRow W (.slice (some ⟨gy, 0, none⟩) fs.length fs.length) fs ∧ W.heap[w.heap.size]? = some (.cells #[.slice va hs.length vc] 65 (0, 0)) ∧ W.heap[w.heap.size + 1]? = some (.cells #[.string hverb, .string target, .string host, .slice ua fs.length uc, .string body] 68 (0, 0)) ∧ W.heap[c8]? = some (.cells #[.int .i64 kh, .string kp, .int .i64 km] 27 (0, 0)) ∧ W.heap[w9.heap.size]? = some (.cells #[.slice (some ⟨gx, 0, none⟩) hs.length hs.length] 25 (0, 0)) ∧ W.heap[w10.heap.size]? = some (.cells #[.string hverb, .string target, .string host, .slice (some ⟨gy, 0, none⟩) fs.length fs.length, .string body] 40 (0, 0))) := Lib.hid fun W hW => by
      obtain ⟨a1, a2, a3, a4, a5, a6, a7⟩ := HX8.out _ (hD10.trans (hW.mono hD10.size))
      have hW9 := hE10.trans (hW.mono hE10.size)
      exact ⟨⟨a1, a4⟩, a2, a3, hr9.below (Nat.le_refl _) hW9, hf11.below (Nat.le_refl _) hW, a5, a6, a7, heap_keep hW9 (Nat.le_refl _) _ _ hY9, heap_keep hW (Nat.le_refl _) _ _ hY10⟩
    have hbA : Below w10b.heap.size w10b w10b := Below.refl _ _
    obtain ⟨⟨k0, _⟩, _, _, k3, k4, _, _, _, k8, k9⟩ := HXA.out _ hbA
    obtain ⟨q0, _⟩ := one_fact k8
    obtain ⟨p1, p2, p3, p4, p5, _⟩ := five_facts k9
    have hI := HIm.out _ _ w10b k3 k4 k0
    have HW10 := Lib.hid hw10b
    rw [hw10b] at q0 p1 p2 p3 p4 p5 hI
    clear hT2 hD9 hb10 hw10b hb10b hE10 hD10 hf10 hf11 hr9 hY9 hY10 hgy k0 k3 k4 k8 k9 t1 t2 t3 t4 t5
    go_wp2_with fail
    refine hI.mono ?_
    rintro e w11 ⟨rfl, hb11⟩
    rw [← HW10.out] at hb11
    obtain ⟨w12, hw12⟩ : ∃ x, x = w11.alloc (.cells #[.int .i64 kh, .string kp, .int .i64 km] 27) := ⟨_, rfl⟩
    have hs12 : w12.heap.size = w11.heap.size + 1 := by rw [hw12]; simp
    have hb12 : Below w11.heap.size w11 w12 := by rw [hw12]; exact (Below.refl _ _).alloc (Nat.le_refl _) _
    have hY12 : w12.heap[w11.heap.size]? = some (.cells #[.int .i64 kh, .string kp, .int .i64 km] 27 (0, 0)) := by rw [hw12]; exact heap_alloc_new w11 _
    have hD12 := hb11.trans (hb12.mono hb11.size)
    obtain ⟨_, _, _, _, _, _, _, k7, _, _⟩ := HXA.out _ hD12
    obtain ⟨y0, y1, y2, _⟩ := three_facts hY12
    obtain ⟨z0, z1, z2, _⟩ := three_facts k7
    have HW12 := Lib.hid hw12
    rw [hw12] at y0 y1 y2 z0 z1 z2
    clear hI hbA hb11 hw12 hb12 hY12 k7 q0 p1 p2 p3 p4 p5
    go_wp2_with fail
    rw [← HW12.out]
    refine (HEQ.out _).mono ?_
    rintro e w13 ⟨rfl, hb13⟩
    have hD13 := hD12.trans (hb13.mono hD12.size)
    clear hD12 hb13 y0 y1 y2 z0 z1 z2
    go_wp2_with fail
    refine wp_region_last (by kernel_rfl) 4 (by kernel_rfl) (by kernel_rfl) (by kernel_rfl)
      (fun u => { tmps := #[.agg #[.slice va hs.length vc], .agg #[.string hverb, .string target, .string host, .slice ua fs.length uc, .string body], .pointer (some ⟨w.heap.size, 0, none⟩), .pointer (some ⟨w.heap.size + 1, 0, none⟩), .bool false, .int .i64 r2, .pointer (some ⟨c8, 0, none⟩), .bool ok, .pointer (some ⟨w9.heap.size, 0, none⟩), .pointer (some ⟨w10.heap.size, 0, none⟩), .pointer (some ⟨w11.heap.size, 0, none⟩), .bool ok, .agg #[.slice va hs.length vc], .int .i64 1048576, .int .i64 r, .int .i64 r, .bool (decide (r < 0)), .agg #[.string hverb, .string target, .string host, .slice ua fs.length uc, .string body], .int .i64 r, .int .i64 r2, .int .i64 r2, .bool (decide (r2 < 0)), uz 5, uz 0, uz 1, uz 2, uz 3, uz 4, uz 6, .bool ok, .agg #[.slice va hs.length vc], .agg #[.slice (some ⟨gx, 0, none⟩) hs.length hs.length], .agg #[.string hverb, .string target, .string host, .slice ua fs.length uc, .string body], .agg #[.string hverb, .string target, .string host, .slice (some ⟨gy, 0, none⟩) fs.length fs.length, .string body], .tuple #[.agg #[.int .i64 kh, .string kp, .int .i64 km], .bool ok], .agg #[.slice (some ⟨gx, 0, none⟩) hs.length hs.length], .agg #[.string hverb, .string target, .string host, .slice (some ⟨gy, 0, none⟩) fs.length fs.length, .string body], .tuple #[.agg #[.int .i64 kh, .string kp, .int .i64 km], .bool ok], .agg #[.int .i64 kh, .string kp, .int .i64 km], .bool ok, .agg #[.int .i64 kh, .string kp, .int .i64 km], .agg #[.int .i64 kh, .string kp, .int .i64 km], .bool true, .bool false, .bool false, .bool ok, .bool ok, .bool false, .bool false, u 0, u 1, u 2, u 3, undef, undef, undef, undef, undef, undef], defers := [] })
      (fun _ W => Below w13.heap.size w13 W)
      (RAt [REq (.agg #[.slice (some ⟨gx, 0, none⟩) hs.length hs.length]), REq (.agg #[.slice va hs.length vc]), KCf hs, REq (.bool true)])
      (fun w w' => Below w.heap.size w w') (fun _ => undef) (Below.refl _ _).drew
      (fun i v w w' _ hR hle => steady_at (by exact ⟨steady_eq _, steady_eq _, steady_kcf hs, steady_eq _, trivial⟩) v w w' hR hle) ?_ ?_
    · intro i hi u w7 kk hkk hC hd
      obtain ⟨_, k2, _, k4, _, k6, _, _, k9, _⟩ := HXA.out _ (hD13.trans (hC.mono hD13.size))
      obtain ⟨q0, _⟩ := one_fact k9
      obtain ⟨t0, _⟩ := one_fact k6
      match i, hi with
      | 0, _ =>
        refine wpOp_step rfl (fun K hK => ?_)
        clear hd
        go_simp
        exact hK _ _ ⟨_, rfl, rfl, Below.refl _ _, hC⟩
      | 1, _ =>
        refine wpOp_step rfl (fun K hK => ?_)
        clear hd
        go_simp
        exact hK _ _ ⟨_, rfl, rfl, Below.refl _ _, hC⟩
      | 2, _ =>
        have e1 : u 1 = .agg #[.slice va hs.length vc] := hd 1 (dep_of (by kernel_rfl))
        have hT := to_cfg _ hs w7 k2 hn HM.out
        refine wpOp_step rfl (fun K hK => ?_)
        clear hd
        go_simp
        refine hT.mono ?_
        rintro e w8 ⟨g2, G2, rfl, ho8, hb8⟩
        exact hK _ _ ⟨_, by simp [upd, e1], ⟨_, _, rfl, ho8.row hn HM.out⟩, hb8, hC.trans (hb8.mono hC.size)⟩
      | 3, _ =>
        have e0 : u 0 = .agg #[.slice (some ⟨gx, 0, none⟩) hs.length hs.length] := hd 0 (dep_of (by kernel_rfl))
        obtain ⟨a2, c2, e2, hr2⟩ : KCf hs (u 2) w7 := hd 2 (dep_of (by kernel_rfl))
        have hT := eq_cfg _ _ hs w7 k4 hr2
        refine wpOp_step rfl (fun K hK => ?_)
        clear hd
        go_simp
        refine hT.mono ?_
        rintro e w8 ⟨rfl, hb8⟩
        exact hK _ _ ⟨_, by simp [upd, e0, e2], rfl, hb8, hC.trans (hb8.mono hC.size)⟩
    · intro ub w7 kk hkk hC hd
      have e3 : ub 3 = .bool true := hd 3 (by decide)
      refine wpOp_step rfl (fun K hK => ?_)
      clear hd
      go_simp
      refine hK _ _ ?_
      clear hK K e3
      obtain ⟨w14, hw14⟩ : ∃ x, x = w7 := ⟨_, rfl⟩
      rw [← hw14] at hC ⊢
      have hD14 := hD13.trans (hC.mono hD13.size)
      clear hw14 hC hD13
      go_wp2_with fail
      refine wp_region_last (by kernel_rfl) 4 (by kernel_rfl) (by kernel_rfl) (by kernel_rfl)
        (fun u => { tmps := #[.agg #[.slice va hs.length vc], .agg #[.string hverb, .string target, .string host, .slice ua fs.length uc, .string body], .pointer (some ⟨w.heap.size, 0, none⟩), .pointer (some ⟨w.heap.size + 1, 0, none⟩), .bool false, .int .i64 r2, .pointer (some ⟨c8, 0, none⟩), .bool ok, .pointer (some ⟨w9.heap.size, 0, none⟩), .pointer (some ⟨w10.heap.size, 0, none⟩), .pointer (some ⟨w11.heap.size, 0, none⟩), .bool ok, .agg #[.slice va hs.length vc], .int .i64 1048576, .int .i64 r, .int .i64 r, .bool (decide (r < 0)), .agg #[.string hverb, .string target, .string host, .slice ua fs.length uc, .string body], .int .i64 r, .int .i64 r2, .int .i64 r2, .bool (decide (r2 < 0)), uz 5, uz 0, uz 1, uz 2, uz 3, uz 4, uz 6, .bool ok, .agg #[.slice va hs.length vc], .agg #[.slice (some ⟨gx, 0, none⟩) hs.length hs.length], .agg #[.string hverb, .string target, .string host, .slice ua fs.length uc, .string body], .agg #[.string hverb, .string target, .string host, .slice (some ⟨gy, 0, none⟩) fs.length fs.length, .string body], .tuple #[.agg #[.int .i64 kh, .string kp, .int .i64 km], .bool ok], .agg #[.slice (some ⟨gx, 0, none⟩) hs.length hs.length], .agg #[.string hverb, .string target, .string host, .slice (some ⟨gy, 0, none⟩) fs.length fs.length, .string body], .tuple #[.agg #[.int .i64 kh, .string kp, .int .i64 km], .bool ok], .agg #[.int .i64 kh, .string kp, .int .i64 km], .bool ok, .agg #[.int .i64 kh, .string kp, .int .i64 km], .agg #[.int .i64 kh, .string kp, .int .i64 km], .bool true, .bool false, .bool false, .bool ok, .bool ok, .bool false, .bool false, ub 0, ub 1, ub 2, .bool true, .bool false, u 0, u 1, u 2, u 3, undef], defers := [] })
        (fun _ W => Below w14.heap.size w14 W)
        (RAt [REq (.agg #[.string hverb, .string target, .string host, .slice (some ⟨gy, 0, none⟩) fs.length fs.length, .string body]), REq (.agg #[.string hverb, .string target, .string host, .slice ua fs.length uc, .string body]), RHd ⟨hverb, target, host, fs, body⟩, REq (.bool true)])
        (fun w w' => Below w.heap.size w w') (fun _ => undef) (Below.refl _ _).drew
        (fun i v w w' _ hR hle => steady_at (by exact ⟨steady_eq _, steady_eq _, steady_hd ⟨hverb, target, host, fs, body⟩, steady_eq _, trivial⟩) v w w' hR hle) ?_ ?_
      · intro i hi u w7 kk hkk hC hd
        obtain ⟨_, _, k3, _, k5, _, k7, _, _, k10⟩ := HXA.out _ (hD14.trans (hC.mono hD14.size))
        obtain ⟨p1, p2, p3, p4, p5, _⟩ := five_facts k10
        obtain ⟨t1, t2, t3, t4, t5, _⟩ := five_facts k7
        match i, hi with
        | 0, _ =>
          refine wpOp_step rfl (fun K hK => ?_)
          clear hd
          go_simp
          exact hK _ _ ⟨_, rfl, rfl, Below.refl _ _, hC⟩
        | 1, _ =>
          refine wpOp_step rfl (fun K hK => ?_)
          clear hd
          go_simp
          exact hK _ _ ⟨_, rfl, rfl, Below.refl _ _, hC⟩
        | 2, _ =>
          have e1 : u 1 = .agg #[.string hverb, .string target, .string host, .slice ua fs.length uc, .string body] := hd 1 (dep_of (by kernel_rfl))
          have hT := HT.out w7 k3
          refine wpOp_step rfl (fun K hK => ?_)
          clear hd
          go_simp
          refine hT.mono ?_
          rintro e w8 ⟨⟨g2, rfl, hf8, _⟩, hb8⟩
          exact hK _ _ ⟨_, by simp [upd, e1], ⟨_, rfl, hf8⟩, hb8, hC.trans (hb8.mono hC.size)⟩
        | 3, _ =>
          have e0 : u 0 = .agg #[.string hverb, .string target, .string host, .slice (some ⟨gy, 0, none⟩) fs.length fs.length, .string body] := hd 0 (dep_of (by kernel_rfl))
          obtain ⟨g2, e2, hr2⟩ : RHd ⟨hverb, target, host, fs, body⟩ (u 2) w7 := hd 2 (dep_of (by kernel_rfl))
          dsimp only at e2 hr2
          have hT := HHE.out _ _ w7 k5 hr2
          refine wpOp_step rfl (fun K hK => ?_)
          clear hd
          go_simp
          refine hT.mono ?_
          rintro e w8 ⟨rfl, hb8⟩
          exact hK _ _ ⟨_, by simp [upd, e0, e2], rfl, hb8, hC.trans (hb8.mono hC.size)⟩
      · intro uc w7 kk hkk hC hd
        have e3 : uc 3 = .bool true := hd 3 (by decide)
        refine wpOp_step rfl (fun K hK => ?_)
        clear hd
        go_simp
        refine hK _ _ ?_
        clear hK K e3
        have HB := Lib.hid (HXA.out _ (hD14.trans (hC.mono hD14.size))).1.2
        clear hC
        go_wp2
        go_ret
        exact ⟨rfl, HB.out⟩
namespace Lw
theorem fnExactKeyOf (w : World) (hL : laidMetH Tryz.prog Rows.fnExactKeyOfRow.laid w) (v : Value) (hs : List Hs) (hH : HRow w v hs) (hN : HOks hs maxLen) (h : Hd) (u : Value) (hF : FRow w u h.fs) (hok : FOk h.fs maxLen) (b1 : h.verb.size ≤ maxLen) (b2 : h.target.size ≤ maxLen) (b3 : h.host.size ≤ maxLen) (b4 : h.body.size ≤ maxLen) :
    Calls Tryz.prog 9 #[.agg #[v], headV h u] w fun e w' => e = .returned (.bool true) ∧ Below w.heap.size w w' := by
  have hL' : laidMet Tryz.prog Rows.fnExactKeyOfRow.laid w := hL
  exact law_keyof hs v h u w hH hN hF hok b1 b2 b3 b4 ⟨cls_of_head hL'.tail.tail.tail.tail.tail.tail, tab_of_head hL'.tail.tail, cds_of_head hL'.tail.tail.tail.tail.tail.tail.tail, errs_of_heads hL'.tail.tail.tail.tail⟩
end Lw
end Go.Proofs.YtiepobifbkleaaaGreatDoor

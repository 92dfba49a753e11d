import Derived.Test.YtiepobifbkleaaaGreatDoorKyL1
import Derived.Test.YtiepobifbkleaaaGreatDoorKyPI
import Derived.Test.YtiepobifbkleaaaGreatDoorKyPS
-- from XKyL2
/- What the exact law on requests that are put adds. -/

namespace Go.Proofs.YtiepobifbkleaaaGreatDoor
open Go.RowKit Go.Maps

/-- A request and whether it is one, as a call tells them. -/
def EHq (qv qt qh qb : ByteArray) (ok : Bool) : Value → World → Prop := fun v _ => ∃ vr, v = .tuple #[.agg #[.string qv, .string qt, .string qh, vr, .string qb], .bool ok]
def RHq (B0 : Nat) (qv qt qh : ByteArray) (qf : List Fd) (qb : ByteArray) (ok : Bool) : Value → World → Prop := fun v W => ∃ vr, v = .tuple #[.agg #[.string qv, .string qt, .string qh, vr, .string qb], .bool ok] ∧ W.ownsRow B0 50 2 vr qf.length (fcells qf)
theorem blank_hq {qv qt qh qb : ByteArray} {ok : Bool} : Blank (EHq qv qt qh qb ok) := fun _ _ _ h => h
theorem steady_hq {B0 : Nat} {qv qt qh : ByteArray} {qf : List Fd} {qb : ByteArray} {ok : Bool} : Steady (RHq B0 qv qt qh qf qb ok) := fun _ _ _ ⟨vr, h1, h2⟩ hb => ⟨vr, h1, own_below h2 hb⟩
/-- A box that holds such a request. -/
def StP (B0 : Nat) (qv qt qh : ByteArray) (qf : List Fd) (qb : ByteArray) (b : Nat) (W : World) : Prop :=
  ∃ a c, W.heap[b]? = some (.cells #[.string qv, .string qt, .string qh, .slice a qf.length c, .string qb] 40 (0, 0)) ∧ W.ownsRow B0 50 2 (.slice a qf.length c) qf.length (fcells qf) ∧ (Value.slice a qf.length c).ownBlock ≠ some b
theorem stp_stay {B0 : Nat} {qv qt qh : ByteArray} {qf : List Fd} {qb : ByteArray} {b : Nat} {W W' : World} (h : StP B0 qv qt qh qf qb b W) (hb : Below W.heap.size W W') : StP B0 qv qt qh qf qb b W' := by
  obtain ⟨a, c, h1, h2, h3⟩ := h
  exact ⟨a, c, heap_keep hb (Nat.le_refl _) _ _ h1, own_below h2 hb, h3⟩
theorem stp_told {w : World} {B c : Nat} {vr : Value} {x0 x1 x2 x3 x4 : Value} {qv qt qh qb : ByteArray} {qf : List Fd} (hc : w.heap[c]? = some (.cells #[x0, x1, x2, x3, x4] 40 (0, 0))) (ho : w.ownsRow B 50 2 vr qf.length (fcells qf)) :
    StP B qv qt qh qf qb c (set5 w c (.string qv) (.string qt) (.string qh) vr (.string qb)) := by
  obtain ⟨a, k, rfl⟩ := own_len2 ho
  refine ⟨a, k, five_set hc _ _ _ _ _, own_set5 ho hc (by decide) _ _ _ _ _, fun e => ?_⟩
  rcases ho.2 with ⟨h0, _⟩ | ⟨g, cap, cur, hv, hB, hh, rest⟩
  · rw [h0] at e; cases e
  · rw [hv] at e
    have e2 : g = c := Option.some.inj e
    rw [e2, hc] at hh
    injection hh with e1
    injection e1 with _ e3
    exact absurd e3 (by decide)
set_option maxRecDepth 100000 in
set_option maxHeartbeats 800000 in
theorem mark_headk (h : Hd) (g cap : Nat) (F : Nat → Fd) (n k : Nat) (w : World) (hF : FCells w g n F) (hn : k + 2 * n < 10000000) :
    Calls Tryz.prog 46 #[headV h (.slice (some ⟨g, 0, none⟩) n cap), .int .i64 (k : Int)] w fun e w' => e = .returned (.int .i64 ((k : Int) + 2 * (n : Int))) ∧ w.grownBy w' (some g) := by
  have hg := hF.lt
  have hM := fun W hW => mark_fields g n cap k F W hW hn
  have hb : ∀ o, Below w.heap.size w (w.alloc o) := fun o => (Below.refl _ _).alloc (Nat.le_refl _) o
  have HB := Lib.hid hb
  unfold headV
  have hMA := hM (w.alloc (.cells #[.string h.verb, .string h.target, .string h.host, .slice (some ⟨g, 0, none⟩) n cap, .string h.body] 40)) (hF.keep ((hb _).block g hg))
  clear hM hF hb
  go_enter Tryz.func46, Tryz.ntmps46
  go_wp2_with fail
  refine hMA.mono ?_
  rintro e w2 ⟨rfl, _, hgr⟩
  have HF := Lib.hid (grown_trans (grown_of_below (HB.out _) (some g)) hgr)
  clear hMA hgr
  go_wp2
  go_ret
  exact ⟨rfl, HF.out⟩
end Go.Proofs.YtiepobifbkleaaaGreatDoor

-- from XLKyPut
/- The law on a request that is put on, exact. -/
namespace Go.Proofs.YtiepobifbkleaaaGreatDoor
open Go.RowKit Go.Maps

theorem put_len (hs : List Hs) (h : Hd) : (putAsk hs h).1.fs.length ≤ 2 := by
  unfold putAsk
  split
  · exact Nat.zero_le _
  · exact Nat.zero_le _
set_option maxRecDepth 100000 in
set_option maxHeartbeats 12800000 in
theorem law_putask (hs : List Hs) (v : Value) (h : Hd) (u : Value) (w : World) (hH : HRow w v hs) (hN : HOks hs maxLen) (hF : FRow w u h.fs) (hok : FOk h.fs maxLen) (b1 : h.verb.size ≤ maxLen) (b2 : h.target.size ≤ maxLen) (b3 : h.host.size ≤ maxLen) (b4 : h.body.size ≤ maxLen) (hcls : Cls w) (htab : Tab w) :
    Calls Tryz.prog 11 #[.agg #[v], headV h u] w fun e w' => e = .returned (.bool true) ∧ Below w.heap.size w w' := by
  obtain ⟨hz2, hb2, hA0, hA1⟩ := box2_new w (.cells #[v] 65) (.cells #[.string h.verb, .string h.target, .string h.host, u, .string h.body] 68)
  obtain ⟨wA, hwA⟩ : ∃ wA, wA = (w.alloc (.cells #[v] 65)).alloc (.cells #[.string h.verb, .string h.target, .string h.host, u, .string h.body] 68) := ⟨_, rfl⟩
  rw [← hwA] at hz2 hb2 hA0 hA1
  have HX : Hid (∀ W, Below wA.heap.size wA W → (Cls W ∧ Tab W) ∧ HRow W v hs ∧ FRow W u h.fs ∧ Below w.heap.size w W ∧ W.heap[w.heap.size]? = some (.cells #[v] 65 (0, 0)) ∧ W.heap[w.heap.size + 1]? = some (.cells #[.string h.verb, .string h.target, .string h.host, u, .string h.body] 68 (0, 0))) := Lib.hid fun W hW => by
    have hb := hb2.trans (hW.mono (by omega))
    exact ⟨⟨hcls.below hb (Nat.le_refl _), htab.below hb (Nat.le_refl _)⟩, hH.below (Nat.le_refl _) hb, hF.below (Nat.le_refl _) hb, hb, (hW.block _ (by omega)).trans hA0, (hW.block _ (by omega)).trans hA1⟩
  have hb0 : Below wA.heap.size wA wA := Below.refl _ _
  have hSz := szt_cfg v hs wA (HX.out _ hb0).2.1 hN
  have HSH : Hid (∀ L W, 0 ≤ L → L ≤ 1048576 → FRow W u h.fs → Calls Tryz.prog 39 #[headV h u, .int .i64 L] W fun e w' => (∃ r : Int, e = .returned (.int .i64 r) ∧ (r < 0 ∨ (0 ≤ r ∧ HSz h))) ∧ Below W.heap.size W w') := Lib.hid fun L W h0 h1 hf => sz_headL L h0 h1 h u W hf hok b1 b2 b3 b4
  obtain ⟨va, vc, rfl, _⟩ := hH
  obtain ⟨ua, uc, rfl, _⟩ := hF
  obtain ⟨hverb, target, host, fs, body⟩ := h
  unfold headV at HSH ⊢
  dsimp only at *
  obtain ⟨t0, _⟩ := one_fact hA0
  obtain ⟨t1, t2, t3, t4, t5, _⟩ := five_facts hA1
  rw [hwA] at t0 t1 t2 t3 t4 t5
  have HW := Lib.hid hwA
  clear hwA hb2 hA0 hA1 hN hok b1 b2 b3 b4 hcls htab
  go_enter Tryz.func11, Tryz.ntmps11
  go_wp2_with fail
  rw [← HW.out]
  refine hSz.mono ?_
  rintro e w1 ⟨⟨r, rfl, hr⟩, hb1⟩
  clear hSz hb0 t0 t1 t2 t3 t4 t5
  rcases hr with hr | ⟨hr, hz, hn, hm, htot⟩
  · have HB := Lib.hid (HX.out _ hb1).2.2.2.1
    clear hb1
    go_wp2
    go_ret
    exact ⟨rfl, HB.out⟩
  have i1 : ¬ r < 0 := by omega
  have HZ := Lib.hid hz
  have HM := Lib.hid hm
  have hkx : kAt 1 (hget hs) hs.length < 5000000 := by
    rw [kAt_names 1 hs hs.length (Nat.le_refl _), List.take_length]; omega
  obtain ⟨kn, hkn⟩ : ∃ n : Nat, n = kAt 1 (hget hs) hs.length := ⟨_, rfl⟩
  rw [← hkn] at hkx
  have HKn := Lib.hid hkn
  obtain ⟨_, _, kf, _, _, k5⟩ := HX.out _ hb1
  obtain ⟨t1, t2, t3, t4, t5, _⟩ := five_facts k5
  have hS2 := HSH.out r w1 hr (by omega) kf
  clear hz hm htot kf k5 hkn
  go_wp2_with fail
  refine hS2.mono ?_
  rintro e w2 ⟨⟨r2, rfl, hr2⟩, hb2⟩
  have hb02 := hb1.trans (hb2.mono hb1.size)
  clear hS2 hb1 hb2 t1 t2 t3 t4 t5
  rcases hr2 with hr2 | ⟨hr2, hsz⟩
  · have HB := Lib.hid (HX.out _ hb02).2.2.2.1
    clear hb02
    go_wp2
    go_ret
    exact ⟨rfl, HB.out⟩
  have i2 : ¬ r2 < 0 := by omega
  have hlen := hsz.len
  dsimp only at hlen
  have hdz : HdSz ⟨hverb, target, host, fs, body⟩ := ⟨hsz.verb, hsz.target, hsz.host, hsz.body, hsz.fs, by have := hsz.len; dsimp only at this ⊢; omega⟩
  have HT : Hid (∀ W, FRow W (.slice ua fs.length uc) fs → Calls Tryz.prog 41 #[.agg #[.string hverb, .string target, .string host, .slice ua fs.length uc, .string body]] W fun e w' => (∃ g, e = .returned (.agg #[.string hverb, .string target, .string host, .slice (some ⟨g, 0, none⟩) fs.length fs.length, .string body]) ∧ FRow w' (.slice (some ⟨g, 0, none⟩) fs.length fs.length) fs ∧ W.heap.size ≤ g ∧ FCells w' g fs.length (fget fs)) ∧ Below W.heap.size W w') := Lib.hid fun W hf => by
    refine (to_head ⟨hverb, target, host, fs, body⟩ _ W hf hlen).mono ?_
    rintro e w' ⟨⟨g, rfl, hg, hc⟩, hb⟩
    exact ⟨⟨g, rfl, hc.row (by unfold maxLen; dsimp only; omega), hg, hc⟩, hb⟩
  have HHE : Hid (∀ y1 y2 W, FRow W y1 fs → FRow W y2 fs → Calls Tryz.prog 44 #[.agg #[.string hverb, .string target, .string host, y1, .string body], .agg #[.string hverb, .string target, .string host, y2, .string body]] W fun e w' => e = .returned (.bool true) ∧ Below W.heap.size W w') := Lib.hid fun y1 y2 W h1 h2 => eq_head ⟨hverb, target, host, fs, body⟩ y1 y2 W h1 h2 (by dsimp only; omega)
  obtain ⟨k2, hk2⟩ : ∃ x : Int, x = (kn : Int) + 2 * (fs.length : Int) := ⟨_, rfl⟩
  have HMK : Hid (∀ g W, FCells W g fs.length (fget fs) → Calls Tryz.prog 46 #[.agg #[.string hverb, .string target, .string host, .slice (some ⟨g, 0, none⟩) fs.length fs.length, .string body], .int .i64 (kn : Int)] W fun e w' => e = .returned (.int .i64 k2) ∧ W.grownBy w' (some g)) := Lib.hid fun g W hf => by rw [hk2]; exact mark_headk ⟨hverb, target, host, fs, body⟩ g fs.length (fget fs) fs.length kn W hf (by omega)
  have i3 : ¬ k2 < 0 := by omega
  have hpl := put_len hs ⟨hverb, target, host, fs, body⟩
  have HSp : Hid (∀ x y W, HRow W x hs → FRow W y fs → Calls Tryz.prog 35 #[.agg #[x], .agg #[.string hverb, .string target, .string host, y, .string body]] W fun e w' => HRet2 W.heap.size (putAsk hs ⟨hverb, target, host, fs, body⟩) e w' ∧ Below W.heap.size W w') := Lib.hid fun x y W hx hy => spec_putask hs x ⟨hverb, target, host, fs, body⟩ y W hx HZ.out hy hdz
  have HIm : Hid (∀ x y W, HRow W x hs → FRow W y fs → Cls W → Tab W → Calls Tryz.prog 34 #[.agg #[x], .agg #[.string hverb, .string target, .string host, y, .string body]] W fun e w' => HRet2 W.heap.size (putAsk hs ⟨hverb, target, host, fs, body⟩) e w' ∧ Below W.heap.size W w') := Lib.hid fun x y W hx hy hc ht => impl_putask hs x ⟨hverb, target, host, fs, body⟩ y W hx HZ.out hy hdz hc ht
  generalize putAsk hs ⟨hverb, target, host, fs, body⟩ = PR at *
  obtain ⟨⟨qv, qt, qh, qf, qb⟩, ok⟩ := PR
  unfold HRet2 headV at HSp HIm
  dsimp only at HSp HIm hpl
  have eX := bne_self ok
  have HEH : Hid (∀ y1 y2 W, FRow W y1 qf → FRow W y2 qf → Calls Tryz.prog 44 #[.agg #[.string qv, .string qt, .string qh, y1, .string qb], .agg #[.string qv, .string qt, .string qh, y2, .string qb]] W fun e w' => e = .returned (.bool true) ∧ Below W.heap.size W w') := Lib.hid fun y1 y2 W h1 h2 => eq_head ⟨qv, qt, qh, qf, qb⟩ y1 y2 W h1 h2 (by dsimp only; omega)
  obtain ⟨m, hm⟩ : ∃ m : Int, m = 1 + 2 * (qf.length : Int) := ⟨_, rfl⟩
  have HMA : Hid (∀ y B W, W.ownsRow B 50 2 y qf.length (fcells qf) → Calls Tryz.prog 46 #[.agg #[.string qv, .string qt, .string qh, y, .string qb], .int .i64 1] W fun e w' => e = .returned (.int .i64 m) ∧ MkS w' y qf.length ∧ W.grownBy w' y.ownBlock) := Lib.hid fun y B W h => by rw [hm]; exact mark_any ⟨qv, qt, qh, qf, qb⟩ y B _ qf W h (by omega)
  have HHA : Hid (∀ y W, MkS W y qf.length → Calls Tryz.prog 47 #[.agg #[.string qv, .string qt, .string qh, y, .string qb], .int .i64 1] W fun e w' => e = .returned (.int .i64 m) ∧ Below W.heap.size W w') := Lib.hid fun y W h => by rw [hm]; exact held_any ⟨qv, qt, qh, qf, qb⟩ y qf.length W h (by omega)
  have HM0 : Hid (¬ m < 0) := Lib.hid (by omega)
  have HK5 := Lib.hid hkx
  clear hdz hsz hm hk2 hkx hpl
  go_wp2_with fail
  have HSt : Hid (∀ (b : Nat) (W W' : World), StP w2.heap.size qv qt qh qf qb b W → Below W.heap.size W W' → StP w2.heap.size qv qt qh qf qb b W') := Lib.hid fun _ _ _ h hb => stp_stay h hb
  refine wp_region_lastU (by kernel_rfl) 10 (by kernel_rfl) (by kernel_rfl) (by kernel_rfl)
    (fun u => { tmps := #[.agg #[.slice va hs.length vc], .agg #[.string hverb, .string target, .string host, .slice ua fs.length uc, .string body], .pointer (some ⟨w.heap.size, 0, none⟩), .pointer (some ⟨w.heap.size + 1, 0, none⟩), .bool false, .int .i64 r2, u 8, undef, undef, undef, undef, undef, undef, undef, undef, undef, undef, .agg #[.slice va hs.length vc], .int .i64 1048576, .int .i64 r, .int .i64 r, .bool (decide (r < 0)), .agg #[.string hverb, .string target, .string host, .slice ua fs.length uc, .string body], .int .i64 r, .int .i64 r2, .int .i64 r2, .bool (decide (r2 < 0)), u 5, u 0, u 1, u 2, u 3, u 4, u 6, u 7, undef, undef, undef, undef, undef, undef, undef, undef, undef, undef, undef, undef, undef, undef, undef, undef, undef, undef, undef, undef, undef, undef, undef, undef, undef, undef, undef, undef, undef, undef, undef, undef, undef, undef, undef, undef, undef, undef, undef, undef, undef, undef, undef, undef, undef, undef, undef, undef, undef, undef, undef, undef, undef, undef, undef, undef, undef, undef, undef, undef, undef, undef, undef, undef, undef, undef, undef, undef, undef, undef, undef, undef, undef, undef, undef, undef, undef, undef, undef, undef, undef, undef, undef, undef], defers := [] })
    (fun L u W => CU w2 8 9 #[.string ⟨#[]⟩, .string ⟨#[]⟩, .string ⟨#[]⟩, .slice none 0 0, .string ⟨#[]⟩] 40 (StP w2.heap.size qv qt qh qf qb) L u W)
    (RU [(fun v _ => v = .agg #[.slice va hs.length vc]), (fun _ _ => True), (fun v _ => v = .agg #[.string hverb, .string target, .string host, .slice ua fs.length uc, .string body]), (fun _ _ => True), EHq qv qt qh qb ok, EHq qv qt qh qb ok, (fun _ _ => True), (fun v _ => v = .bool ok), (fun _ _ => True), (fun _ _ => True)] [(fun _ _ => True), KCf hs, (fun _ _ => True), RHd ⟨hverb, target, host, fs, body⟩, RHq w2.heap.size qv qt qh qf qb ok, RHq w2.heap.size qv qt qh qf qb ok, RHp w2.heap.size qv qt qh qf qb, (fun _ _ => True), (fun _ _ => True), (fun _ _ => True)] 9)
    (fun j w w' => j = 9 ∨ Below w.heap.size w w') (fun _ => undef) ⟨(Below.refl _ _).drew, fun h => h.elim⟩
    (fun i j L v w1 w2 _ _ hij _ _ _ _ hR hle => ru_stay (by exact ⟨blank_eq _, blank_t, blank_eq _, blank_t, blank_hq, blank_hq, blank_t, blank_eq _, blank_t, blank_t, trivial⟩) (by exact ⟨steadyr_t, steady_kcf hs, steadyr_t, steady_hd ⟨hverb, target, host, fs, body⟩, steady_hq, steady_hq, steady_hp, steadyr_t, steadyr_t, steadyr_t, trivial⟩) hR hle) ?_ ?_
  · intro i hi L u w7 hL hcl hdl hC hd
    obtain ⟨k0, k2, k3, _, k4, k5⟩ := HX.out _ (hb02.trans (hC.1.mono hb02.size))
    obtain ⟨t0, _⟩ := one_fact k4
    obtain ⟨t1, t2, t3, t4, t5, _⟩ := five_facts k5
    match i, hi with
    | 0, _ =>
      refine wpOp_step rfl (fun K hK => ?_)
      clear hd
      go_simp
      exact hK _ _ ⟨_, rfl, ⟨rfl, fun _ => trivial⟩, .inr (Below.refl _ _), hC.same (by decide) (by decide) _⟩
    | 1, _ =>
      have e0 : u 0 = .agg #[.slice va hs.length vc] := (hd 0 (dep_of (by kernel_rfl))).1
      have hT := to_cfg _ hs w7 k2 hn HM.out
      refine wpOp_step rfl (fun K hK => ?_)
      clear hd
      go_simp
      refine hT.mono ?_
      rintro e w8 ⟨g2, G2, rfl, ho8, hb8⟩
      exact hK _ _ ⟨_, by simp [upd, e0], ⟨trivial, fun _ => ⟨_, _, rfl, ho8.row hn HM.out⟩⟩, .inr hb8, hC.keep (by decide) (by decide) (fun _ h => HSt.out _ _ _ h hb8) hb8 _⟩
    | 2, _ =>
      refine wpOp_step rfl (fun K hK => ?_)
      clear hd
      go_simp
      exact hK _ _ ⟨_, rfl, ⟨rfl, fun _ => trivial⟩, .inr (Below.refl _ _), hC.same (by decide) (by decide) _⟩
    | 3, _ =>
      have e2 : u 2 = .agg #[.string hverb, .string target, .string host, .slice ua fs.length uc, .string body] := (hd 2 (dep_of (by kernel_rfl))).1
      have hT := HT.out w7 k3
      refine wpOp_step rfl (fun K hK => ?_)
      clear hd
      go_simp
      refine hT.mono ?_
      rintro e w8 ⟨⟨g2, rfl, hf8, _⟩, hb8⟩
      exact hK _ _ ⟨_, by simp [upd, e2], ⟨trivial, fun _ => ⟨_, rfl, hf8⟩⟩, .inr hb8, hC.keep (by decide) (by decide) (fun _ h => HSt.out _ _ _ h hb8) hb8 _⟩
    | 4, _ =>
      have hq : ¬ L 9 := fun h => hL (hcl 5 (hcl 6 (hcl 9 h 6 (dep_of (by kernel_rfl))) 5 (dep_of (by kernel_rfl))) 4 (dep_of (by kernel_rfl)))
      obtain ⟨a1, c1, e1, hr1⟩ : KCf hs (u 1) w7 := (hd 1 (dep_of (by kernel_rfl))).2 hq
      obtain ⟨g3, e3, hr3⟩ : RHd ⟨hverb, target, host, fs, body⟩ (u 3) w7 := (hd 3 (dep_of (by kernel_rfl))).2 hq
      dsimp only at e3 hr3
      have hsz := hC.1.size
      have hT := HSp.out _ _ w7 hr1 hr3
      refine wpOp_step rfl (fun K hK => ?_)
      clear hd
      go_simp
      refine hT.mono ?_
      rintro e w8 ⟨⟨vr8, rfl, ho8⟩, hb8⟩
      exact hK _ _ ⟨_, by simp [upd, e1, e3], ⟨⟨vr8, rfl⟩, fun _ => ⟨vr8, rfl, own_base ho8 hsz⟩⟩, .inr hb8, hC.keep (by decide) (by decide) (fun _ h => HSt.out _ _ _ h hb8) hb8 _⟩
    | 5, _ =>
      have hq : ¬ L 9 := fun h => hL (hcl 6 (hcl 9 h 6 (dep_of (by kernel_rfl))) 5 (dep_of (by kernel_rfl)))
      obtain ⟨vr4, e4, ho4⟩ : RHq w2.heap.size qv qt qh qf qb ok (u 4) w7 := (hd 4 (dep_of (by kernel_rfl))).2 hq
      refine wpOp_step rfl (fun K hK => ?_)
      clear hd
      go_simp
      exact hK _ _ ⟨_, by simp [upd, e4], ⟨⟨vr4, rfl⟩, fun _ => ⟨vr4, rfl, ho4⟩⟩, .inr (Below.refl _ _), hC.same (by decide) (by decide) _⟩
    | 6, _ =>
      have hq : ¬ L 9 := fun h => hL (hcl 9 h 6 (dep_of (by kernel_rfl)))
      obtain ⟨vr5, e5, ho5⟩ : RHq w2.heap.size qv qt qh qf qb ok (u 5) w7 := (hd 5 (dep_of (by kernel_rfl))).2 hq
      refine wpOp_step rfl (fun K hK => ?_)
      clear hd
      go_simp
      exact hK _ _ ⟨_, by simp [upd, e5], ⟨trivial, fun _ => ⟨vr5, rfl, ho5⟩⟩, .inr (Below.refl _ _), hC.same (by decide) (by decide) _⟩
    | 7, _ =>
      obtain ⟨vr5, e5⟩ : EHq qv qt qh qb ok (u 5) w7 := (hd 5 (dep_of (by kernel_rfl))).1
      refine wpOp_step rfl (fun K hK => ?_)
      clear hd
      go_simp
      exact hK _ _ ⟨_, by simp [upd, e5], ⟨rfl, fun _ => trivial⟩, .inr (Below.refl _ _), hC.same (by decide) (by decide) _⟩
    | 8, _ =>
      have hq : ¬ L 9 := fun h => hL (hcl 9 h 8 (dep_of (by kernel_rfl)))
      refine wpOp_step rfl (fun K hK => ?_)
      clear hd
      go_simp
      exact hK _ _ ⟨_, rfl, ⟨trivial, fun _ => trivial⟩, .inr ((Below.refl _ _).alloc (Nat.le_refl _) _), hC.make (by decide) hq⟩
    | 9, _ =>
      obtain ⟨b, hu, hbB, hzz, _⟩ := hC.2 (hdl 8 (dep_of (by kernel_rfl)))
      have hc := hzz hL
      obtain ⟨vr6, e6, ho6⟩ : RHp w2.heap.size qv qt qh qf qb (u 6) w7 := (hd 6 (dep_of (by kernel_rfl))).2 hL
      obtain ⟨a6, c6, hv6⟩ := own_len2 ho6
      subst hv6
      obtain ⟨y0, y1, y2, y3, y4, f0, f1, f2, f3, f4⟩ := five_facts hc
      have HTo := Lib.hid (stp_told (qv := qv) (qt := qt) (qh := qh) (qb := qb) hc ho6)
      refine wpOp_step rfl (fun K hK => ?_)
      clear hd
      go_simp
      exact hK _ _ ⟨undef, by simp [upd, hu, e6], ⟨trivial, fun _ => trivial⟩, .inl rfl, hC.told (by decide) hu hbB (grown_set5 _ _ _ _ _ _ _) HTo.out _⟩
  · intro L uz w7 hC hall _ hd
    have e7 : uz 7 = .bool ok := (hd 7 (by decide)).1
    obtain ⟨cb8, hu, hbB, _, hst⟩ := hC.2 (hall 8 (by decide))
    obtain ⟨a8, c8, hY8, ho8, hne8⟩ := hst (hall 9 (by decide))
    have hD8 := hC.1
    obtain ⟨W8, hW8⟩ : ∃ W, W = w7 := ⟨_, rfl⟩
    rw [← hW8] at hY8 ho8 hD8 ⊢
    have HQ8 := Lib.hid (And.intro hY8 (And.intro ho8 (And.intro hD8 hne8)))
    clear hW8 hY8 ho8 hD8 hne8 hd hC hst hall
    refine wpOp_step rfl (fun K hK => ?_)
    go_simp
    refine hK _ _ ?_
    clear hK K e7 hu HSt
    obtain ⟨hY8, ho8, hD8, hne8⟩ := HQ8.out
    have hb08 := hb02.trans (hD8.mono hb02.size)
    have hcl8 : cb8 < W8.heap.size := (Array.getElem?_eq_some_iff.1 hY8).1
    obtain ⟨_, k2x, _, _, k4, _⟩ := HX.out _ hb08
    obtain ⟨t0, _⟩ := one_fact k4
    have hT := to_cfg _ hs W8 k2x hn HM.out
    clear hb02 k2x k4 hD8 hne8
    go_wp2_with fail
    refine hT.mono ?_
    rintro e w9 ⟨gx, Gx, rfl, ho9, hb9⟩
    have hz9 := hb9.size
    have hfx9 := hf_of_own ho9 HM.out
    have hr9' := ho9.row hn HM.out
    obtain ⟨usx, husx⟩ : ∃ usx : Nat → Value, usx = fun i => .slice (some ⟨Gx i, 0, none⟩) (hget hs i).names.length (hget hs i).names.length := ⟨_, rfl⟩
    rw [← husx] at hfx9
    have HGx := Lib.hid hfx9.lt
    have HUx : Hid (∀ i b, i < hs.length → (usx i).ownBlock = some b → b < w9.heap.size) := Lib.hid fun i b hi hb => ((hfx9.2.2.1 i hi).1.lt b hb).2
    obtain ⟨w9b, hw9b⟩ : ∃ x, x = w9.alloc (.cells #[.slice (some ⟨gx, 0, none⟩) hs.length hs.length] 25) := ⟨_, rfl⟩
    have hs9b : w9b.heap.size = w9.heap.size + 1 := by rw [hw9b]; simp
    have hb9b : Below w9.heap.size w9 w9b := by rw [hw9b]; exact (Below.refl _ _).alloc (Nat.le_refl _) _
    have hY9 : w9b.heap[w9.heap.size]? = some (.cells #[.slice (some ⟨gx, 0, none⟩) hs.length hs.length] 25 (0, 0)) := by rw [hw9b]; exact heap_alloc_new w9 _
    have hr9 := hr9'.below (Nat.le_refl _) hb9b
    have hD9 := hb9.trans (hb9b.mono hb9.size)
    have hb09b := hb08.trans (hD9.mono hb08.size)
    obtain ⟨_, _, k3, _, _, k5⟩ := HX.out _ hb09b
    obtain ⟨t1, t2, t3, t4, t5, _⟩ := five_facts k5
    have hT2 := HT.out w9b k3
    have HW9 := Lib.hid hw9b
    rw [hw9b] at t1 t2 t3 t4 t5
    clear hT t0 ho9 hb9 hw9b hr9' husx k3 k5
    go_wp2_with fail
    rw [← HW9.out]
    refine hT2.mono ?_
    rintro e w10 ⟨⟨gy, rfl, hf10, hgy, hcy⟩, hb10⟩
    have hz10 := hb10.size
    have hgy2 := hcy.lt
    obtain ⟨w10b, hw10b⟩ : ∃ x, x = w10.alloc (.cells #[.string hverb, .string target, .string host, .slice (some ⟨gy, 0, none⟩) fs.length fs.length, .string body] 40) := ⟨_, rfl⟩
    have hs10b : w10b.heap.size = w10.heap.size + 1 := by rw [hw10b]; simp
    have hb10b : Below w10.heap.size w10 w10b := by rw [hw10b]; exact (Below.refl _ _).alloc (Nat.le_refl _) _
    have hY10 : w10b.heap[w10.heap.size]? = some (.cells #[.string hverb, .string target, .string host, .slice (some ⟨gy, 0, none⟩) fs.length fs.length, .string body] 40 (0, 0)) := by rw [hw10b]; exact heap_alloc_new w10 _
    have hE10 := hb10.trans (hb10b.mono hb10.size)
    have hb010 := hb09b.trans (hE10.mono hb09b.size)
    have hf11 := hf10.below (Nat.le_refl _) hb10b
    have hr11 := hr9.below (Nat.le_refl _) hE10
    have hY9b := (hE10.block w9.heap.size (by omega)).trans hY9
    obtain ⟨k0, _⟩ := HX.out _ hb010
    obtain ⟨q0, _⟩ := one_fact hY9b
    obtain ⟨p1, p2, p3, p4, p5, _⟩ := five_facts hY10
    have hI := HIm.out _ _ w10b hr11 hf11 k0.1 k0.2
    have HW10 := Lib.hid hw10b
    rw [hw10b] at q0 p1 p2 p3 p4 p5
    clear hT2 hb10 hw10b hf10 hb09b k0 t1 t2 t3 t4 t5 hr11
    go_wp2_with fail
    rw [← HW10.out]
    refine hI.mono ?_
    rintro e w11 ⟨⟨vr, rfl, ho11⟩, hb11⟩
    obtain ⟨a12, c12, hvr⟩ := own_len2 ho11
    subst hvr
    have hz11 := hb11.size
    have HLr := Lib.hid ho11.lt
    obtain ⟨w12, hw12⟩ : ∃ x, x = w11.alloc (.cells #[.string qv, .string qt, .string qh, .slice a12 qf.length c12, .string qb] 40) := ⟨_, rfl⟩
    have hs12 : w12.heap.size = w11.heap.size + 1 := by rw [hw12]; simp
    have hb12 : Below w11.heap.size w11 w12 := by rw [hw12]; exact (Below.refl _ _).alloc (Nat.le_refl _) _
    have hY12 : w12.heap[w11.heap.size]? = some (.cells #[.string qv, .string qt, .string qh, .slice a12 qf.length c12, .string qb] 40 (0, 0)) := by rw [hw12]; exact heap_alloc_new w11 _
    have ho12 := own_below ho11 hb12
    have hE12 := hb11.trans (hb12.mono hb11.size)
    have hbW := hD9.trans ((hE10.trans (hE12.mono hE10.size)).mono hD9.size)
    have hb1012 := hb10b.trans (hE12.mono hb10b.size)
    have hb912 := hb9b.trans ((hE10.trans (hE12.mono hE10.size)).mono hb9b.size)
    have hc12 := hcy.keep (hb1012.block gy hgy2)
    obtain ⟨X0, hX0⟩ : ∃ X : Nat → Prop, X = fun b => W8.heap.size ≤ b ∧ b < w9.heap.size := ⟨_, rfl⟩
    obtain ⟨X1, hX1⟩ : ∃ X : Nat → Prop, X = fun b => X0 b ∨ some b = some gy := ⟨_, rfl⟩
    obtain ⟨X2, hX2⟩ : ∃ X : Nat → Prop, X = fun b => X1 b ∨ some b = (Value.slice a12 qf.length c12).ownBlock := ⟨_, rfl⟩
    have hcas : ∀ b, X2 b → (W8.heap.size ≤ b ∧ b < w9.heap.size) ∨ b = gy ∨ (w10b.heap.size ≤ b ∧ b < w11.heap.size) := fun b hb => by
      rw [hX2, hX1, hX0] at hb
      rcases hb with (h | h) | h
      · exact .inl h
      · exact .inr (.inl (Option.some.inj h))
      · exact .inr (.inr (HLr.out b h.symm))
    have hX8 : ∀ b, X2 b → W8.heap.size ≤ b := fun b hb => by
      rcases hcas b hb with h | h | h <;> omega
    have hXx : ¬ X2 w9.heap.size := fun hb => by
      rcases hcas _ hb with h | h | h <;> omega
    have hXy : ¬ X2 w10.heap.size := fun hb => by
      rcases hcas _ hb with h | h | h <;> omega
    have hXc : ¬ X2 w11.heap.size := fun hb => by
      rcases hcas _ hb with h | h | h <;> omega
    have hY912 := (hE12.block w9.heap.size (by omega)).trans hY9b
    have hY1012 := (hE12.block w10.heap.size (by omega)).trans hY10
    have HXB : Hid (∀ W, Kp X2 w12 W → Below w.heap.size w W ∧ (Cls W ∧ Tab W) ∧ HRow W (.slice va hs.length vc) hs ∧ FRow W (.slice ua fs.length uc) fs ∧ W.heap[w.heap.size]? = some (.cells #[.slice va hs.length vc] 65 (0, 0)) ∧ W.heap[w.heap.size + 1]? = some (.cells #[.string hverb, .string target, .string host, .slice ua fs.length uc, .string body] 68 (0, 0)) ∧ W.heap[cb8]? = some (.cells #[.string qv, .string qt, .string qh, .slice a8 qf.length c8, .string qb] 40 (0, 0)) ∧ W.ownsRow w2.heap.size 50 2 (.slice a8 qf.length c8) qf.length (fcells qf) ∧ W.heap[w9.heap.size]? = some (.cells #[.slice (some ⟨gx, 0, none⟩) hs.length hs.length] 25 (0, 0)) ∧ W.heap[w10.heap.size]? = some (.cells #[.string hverb, .string target, .string host, .slice (some ⟨gy, 0, none⟩) fs.length fs.length, .string body] 40 (0, 0)) ∧ W.heap[w11.heap.size]? = some (.cells #[.string qv, .string qt, .string qh, .slice a12 qf.length c12, .string qb] 40 (0, 0))) := Lib.hid fun W hK => by
      have hbW8 := hbW.trans (hK.below hbW.size hX8)
      obtain ⟨a1, a2, a3, a4, a5, a6⟩ := HX.out _ (hb08.trans (hbW8.mono hb08.size))
      exact ⟨a4, a1, a2, a3, a5, a6, (hbW8.block _ hcl8).trans hY8, own_below ho8 hbW8, (hK.block (by omega) hXx).trans hY912, (hK.block (by omega) hXy).trans hY1012, (hK.block (by omega) hXc).trans hY12⟩
    have hrx12 := hr9.below (Nat.le_refl _) (hE10.trans (hE12.mono hE10.size))
    have hry12 := hf11.below (Nat.le_refl _) hE12
    have HRx : Hid (∀ W, Below w12.heap.size w12 W → HRow W (.slice (some ⟨gx, 0, none⟩) hs.length hs.length) hs ∧ FRow W (.slice (some ⟨gy, 0, none⟩) fs.length fs.length) fs) := Lib.hid fun W hW => ⟨hrx12.below (Nat.le_refl _) hW, hry12.below (Nat.le_refl _) hW⟩
    have HFx := Lib.hid (hfx9.below hb912)
    have HCy := Lib.hid hc12
    have HO12 := Lib.hid ho12
    have HNx : Hid (∀ b, (Value.slice a12 qf.length c12).ownBlock = some b → ¬ X1 b) := Lib.hid fun b hb hx => by
      rw [hX1, hX0] at hx
      have := HLr.out b hb
      rcases hx with h | h
      · omega
      · have := Option.some.inj h; omega
    have HNy : Hid (¬ X0 gy) := Lib.hid fun hx => by
      rw [hX0] at hx
      omega
    have HX01 : Hid (∀ b, X0 b → X1 b) := Lib.hid fun b hb => by rw [hX1]; exact .inl hb
    have HX1y : Hid (∀ b, some b = some gy → X1 b) := Lib.hid fun b hb => by rw [hX1]; exact .inr hb
    have HX12 : Hid (∀ b, X1 b → X2 b) := Lib.hid fun b hb => by rw [hX2]; exact .inl hb
    have HX22 : Hid (∀ b, some b = (Value.slice a12 qf.length c12).ownBlock → X2 b) := Lib.hid fun b hb => by rw [hX2]; exact .inr hb
    obtain ⟨_, _, _, _, _, _, k6, k8, _, _, k9⟩ := HXB.out w12 (kp_below (Below.refl _ _))
    obtain ⟨y0, y1, y2, y3, y4, _⟩ := five_facts k9
    obtain ⟨s0, s1, s2, s3, s4, _⟩ := five_facts k6
    have hEq12 := HEH.out _ _ w12 (frow_own' ho12) (frow_own' k8)
    have HW12 := Lib.hid hw12
    rw [hw12] at y0 y1 y2 y3 y4 s0 s1 s2 s3 s4
    have HGy := Lib.hid hgy2
    have hgyl : gy < w12.heap.size := by omega
    have HGyl := Lib.hid hgyl
    clear hI hb11 hw12 hb12 hE12 hbW hb1012 hb912 hX1 hX2 hcas hX8 hXx hXy hXc hY912 hY1012 hrx12 hry12 hc12 ho12 ho11 hY12 k6 k8 k9 hb08 hD9 hb9b hY9 hr9 hfx9 hcl8 hY8 ho8 hY10 hE10 hb010 hf11 hY9b q0 p1 p2 p3 p4 p5 hcy hb10b hgyl
    go_wp2_with fail
    rw [← HW12.out]
    refine hEq12.mono ?_
    rintro e w13 ⟨rfl, hb13⟩
    clear hEq12 y0 y1 y2 y3 y4 s0 s1 s2 s3 s4
    go_wp2_with fail
    refine wp_region_last (by kernel_rfl) 4 (by kernel_rfl) (by kernel_rfl) (by kernel_rfl)
      (fun u => { tmps := #[.agg #[.slice va hs.length vc], .agg #[.string hverb, .string target, .string host, .slice ua fs.length uc, .string body], .pointer (some ⟨w.heap.size, 0, none⟩), .pointer (some ⟨w.heap.size + 1, 0, none⟩), .bool false, .int .i64 r2, .pointer (some ⟨cb8, 0, none⟩), .bool ok, .pointer (some ⟨w9.heap.size, 0, none⟩), .pointer (some ⟨w10.heap.size, 0, none⟩), .pointer (some ⟨w11.heap.size, 0, none⟩), .bool ok, undef, undef, undef, undef, undef, .agg #[.slice va hs.length vc], .int .i64 1048576, .int .i64 r, .int .i64 r, .bool (decide (r < 0)), .agg #[.string hverb, .string target, .string host, .slice ua fs.length uc, .string body], .int .i64 r, .int .i64 r2, .int .i64 r2, .bool (decide (r2 < 0)), uz 5, uz 0, uz 1, uz 2, uz 3, uz 4, uz 6, .bool ok, .agg #[.slice va hs.length vc], .agg #[.slice (some ⟨gx, 0, none⟩) hs.length hs.length], .agg #[.string hverb, .string target, .string host, .slice ua fs.length uc, .string body], .agg #[.string hverb, .string target, .string host, .slice (some ⟨gy, 0, none⟩) fs.length fs.length, .string body], .tuple #[.agg #[.string qv, .string qt, .string qh, .slice a12 qf.length c12, .string qb], .bool ok], .agg #[.slice (some ⟨gx, 0, none⟩) hs.length hs.length], .agg #[.string hverb, .string target, .string host, .slice (some ⟨gy, 0, none⟩) fs.length fs.length, .string body], .tuple #[.agg #[.string qv, .string qt, .string qh, .slice a12 qf.length c12, .string qb], .bool ok], .agg #[.string qv, .string qt, .string qh, .slice a12 qf.length c12, .string qb], .bool ok, .agg #[.string qv, .string qt, .string qh, .slice a12 qf.length c12, .string qb], .agg #[.string qv, .string qt, .string qh, .slice a8 qf.length c8, .string qb], .bool true, .bool false, .bool false, .bool ok, .bool ok, .bool false, .bool false, u 0, u 1, u 2, u 3, undef, undef, undef, undef, undef, undef, undef, undef, undef, undef, undef, undef, undef, undef, undef, undef, undef, undef, undef, undef, undef, undef, undef, undef, undef, undef, undef, undef, undef, undef, undef, undef, undef, undef, undef, undef, undef, undef, undef, undef, undef, undef, undef, undef, undef, undef, undef, undef, undef, undef, undef, undef, undef, undef, undef, undef, undef, undef, undef, undef, undef], defers := [] })
      (fun _ W => Below w13.heap.size w13 W)
      (RAt [REq (.agg #[.slice (some ⟨gx, 0, none⟩) hs.length hs.length]), REq (.agg #[.slice va hs.length vc]), KCf hs, REq (.bool true)])
      (fun w w' => Below w.heap.size w w') (fun _ => undef) (Below.refl _ _).drew
      (fun i v w w' _ hR hle => steady_at (by exact ⟨steady_eq _, steady_eq _, steady_kcf hs, steady_eq _, trivial⟩) v w w' hR hle) ?_ ?_
    · intro i hi u w7 kk hkk hC hd
      obtain ⟨_, _, k2, _, k4, _, _, _, k7, _⟩ := HXB.out _ ((kp_below hb13).trans (kp_below hC))
      obtain ⟨kx, _⟩ := HRx.out _ (hb13.trans (hC.mono hb13.size))
      obtain ⟨q0, _⟩ := one_fact k7
      obtain ⟨t0, _⟩ := one_fact k4
      match i, hi with
      | 0, _ =>
        refine wpOp_step rfl (fun K hK => ?_)
        clear hd
        go_simp
        exact hK _ _ ⟨_, rfl, rfl, Below.refl _ _, hC⟩
      | 1, _ =>
        refine wpOp_step rfl (fun K hK => ?_)
        clear hd
        go_simp
        exact hK _ _ ⟨_, rfl, rfl, Below.refl _ _, hC⟩
      | 2, _ =>
        have e1 : u 1 = .agg #[.slice va hs.length vc] := hd 1 (dep_of (by kernel_rfl))
        have hT := to_cfg _ hs w7 k2 hn HM.out
        refine wpOp_step rfl (fun K hK => ?_)
        clear hd
        go_simp
        refine hT.mono ?_
        rintro e w8 ⟨g2, G2, rfl, ho8, hb8⟩
        exact hK _ _ ⟨_, by simp [upd, e1], ⟨_, _, rfl, ho8.row hn HM.out⟩, hb8, hC.trans (hb8.mono hC.size)⟩
      | 3, _ =>
        have e0 : u 0 = .agg #[.slice (some ⟨gx, 0, none⟩) hs.length hs.length] := hd 0 (dep_of (by kernel_rfl))
        obtain ⟨a2, c2, e2, hr2⟩ : KCf hs (u 2) w7 := hd 2 (dep_of (by kernel_rfl))
        have hT := eq_cfg _ _ hs w7 kx hr2
        refine wpOp_step rfl (fun K hK => ?_)
        clear hd
        go_simp
        refine hT.mono ?_
        rintro e w8 ⟨rfl, hb8⟩
        exact hK _ _ ⟨_, by simp [upd, e0, e2], rfl, hb8, hC.trans (hb8.mono hC.size)⟩
    · intro ub w7 kk hkk hC hd
      have e3 : ub 3 = .bool true := hd 3 (by decide)
      refine wpOp_step rfl (fun K hK => ?_)
      clear hd
      go_simp
      refine hK _ _ ?_
      clear hK K e3
      obtain ⟨w14, hw14⟩ : ∃ x, x = w7 := ⟨_, rfl⟩
      rw [← hw14] at hC ⊢
      have hb14 := hb13.trans (hC.mono hb13.size)
      clear hw14 hC hb13
      go_wp2_with fail
      refine wp_region_last (by kernel_rfl) 4 (by kernel_rfl) (by kernel_rfl) (by kernel_rfl)
        (fun u => { tmps := #[.agg #[.slice va hs.length vc], .agg #[.string hverb, .string target, .string host, .slice ua fs.length uc, .string body], .pointer (some ⟨w.heap.size, 0, none⟩), .pointer (some ⟨w.heap.size + 1, 0, none⟩), .bool false, .int .i64 r2, .pointer (some ⟨cb8, 0, none⟩), .bool ok, .pointer (some ⟨w9.heap.size, 0, none⟩), .pointer (some ⟨w10.heap.size, 0, none⟩), .pointer (some ⟨w11.heap.size, 0, none⟩), .bool ok, undef, undef, undef, undef, undef, .agg #[.slice va hs.length vc], .int .i64 1048576, .int .i64 r, .int .i64 r, .bool (decide (r < 0)), .agg #[.string hverb, .string target, .string host, .slice ua fs.length uc, .string body], .int .i64 r, .int .i64 r2, .int .i64 r2, .bool (decide (r2 < 0)), uz 5, uz 0, uz 1, uz 2, uz 3, uz 4, uz 6, .bool ok, .agg #[.slice va hs.length vc], .agg #[.slice (some ⟨gx, 0, none⟩) hs.length hs.length], .agg #[.string hverb, .string target, .string host, .slice ua fs.length uc, .string body], .agg #[.string hverb, .string target, .string host, .slice (some ⟨gy, 0, none⟩) fs.length fs.length, .string body], .tuple #[.agg #[.string qv, .string qt, .string qh, .slice a12 qf.length c12, .string qb], .bool ok], .agg #[.slice (some ⟨gx, 0, none⟩) hs.length hs.length], .agg #[.string hverb, .string target, .string host, .slice (some ⟨gy, 0, none⟩) fs.length fs.length, .string body], .tuple #[.agg #[.string qv, .string qt, .string qh, .slice a12 qf.length c12, .string qb], .bool ok], .agg #[.string qv, .string qt, .string qh, .slice a12 qf.length c12, .string qb], .bool ok, .agg #[.string qv, .string qt, .string qh, .slice a12 qf.length c12, .string qb], .agg #[.string qv, .string qt, .string qh, .slice a8 qf.length c8, .string qb], .bool true, .bool false, .bool false, .bool ok, .bool ok, .bool false, .bool false, ub 0, ub 1, ub 2, .bool true, .bool false, u 0, u 1, u 2, u 3, undef, undef, undef, undef, undef, undef, undef, undef, undef, undef, undef, undef, undef, undef, undef, undef, undef, undef, undef, undef, undef, undef, undef, undef, undef, undef, undef, undef, undef, undef, undef, undef, undef, undef, undef, undef, undef, undef, undef, undef, undef, undef, undef, undef, undef, undef, undef, undef, undef, undef, undef, undef, undef, undef, undef, undef], defers := [] })
        (fun _ W => Below w14.heap.size w14 W)
        (RAt [REq (.agg #[.string hverb, .string target, .string host, .slice (some ⟨gy, 0, none⟩) fs.length fs.length, .string body]), REq (.agg #[.string hverb, .string target, .string host, .slice ua fs.length uc, .string body]), RHd ⟨hverb, target, host, fs, body⟩, REq (.bool true)])
        (fun w w' => Below w.heap.size w w') (fun _ => undef) (Below.refl _ _).drew
        (fun i v w w' _ hR hle => steady_at (by exact ⟨steady_eq _, steady_eq _, steady_hd ⟨hverb, target, host, fs, body⟩, steady_eq _, trivial⟩) v w w' hR hle) ?_ ?_
      · intro i hi u w7 kk hkk hC hd
        obtain ⟨_, _, _, k3, _, k5, _, _, _, k7, _⟩ := HXB.out _ ((kp_below hb14).trans (kp_below hC))
        obtain ⟨_, ky⟩ := HRx.out _ (hb14.trans (hC.mono hb14.size))
        obtain ⟨p1, p2, p3, p4, p5, _⟩ := five_facts k7
        obtain ⟨t1, t2, t3, t4, t5, _⟩ := five_facts k5
        match i, hi with
        | 0, _ =>
          refine wpOp_step rfl (fun K hK => ?_)
          clear hd
          go_simp
          exact hK _ _ ⟨_, rfl, rfl, Below.refl _ _, hC⟩
        | 1, _ =>
          refine wpOp_step rfl (fun K hK => ?_)
          clear hd
          go_simp
          exact hK _ _ ⟨_, rfl, rfl, Below.refl _ _, hC⟩
        | 2, _ =>
          have e1 : u 1 = .agg #[.string hverb, .string target, .string host, .slice ua fs.length uc, .string body] := hd 1 (dep_of (by kernel_rfl))
          have hT := HT.out w7 k3
          refine wpOp_step rfl (fun K hK => ?_)
          clear hd
          go_simp
          refine hT.mono ?_
          rintro e w8 ⟨⟨g2, rfl, hf8, _⟩, hb8⟩
          exact hK _ _ ⟨_, by simp [upd, e1], ⟨_, rfl, hf8⟩, hb8, hC.trans (hb8.mono hC.size)⟩
        | 3, _ =>
          have e0 : u 0 = .agg #[.string hverb, .string target, .string host, .slice (some ⟨gy, 0, none⟩) fs.length fs.length, .string body] := hd 0 (dep_of (by kernel_rfl))
          obtain ⟨g2, e2, hr2⟩ : RHd ⟨hverb, target, host, fs, body⟩ (u 2) w7 := hd 2 (dep_of (by kernel_rfl))
          dsimp only at e2 hr2
          have hT := HHE.out _ _ w7 ky hr2
          refine wpOp_step rfl (fun K hK => ?_)
          clear hd
          go_simp
          refine hT.mono ?_
          rintro e w8 ⟨rfl, hb8⟩
          exact hK _ _ ⟨_, by simp [upd, e0, e2], rfl, hb8, hC.trans (hb8.mono hC.size)⟩
      · intro ux w7 kk hkk hC hd
        have e3 : ux 3 = .bool true := hd 3 (by decide)
        refine wpOp_step rfl (fun K hK => ?_)
        clear hd
        go_simp
        refine hK _ _ ?_
        clear hK K e3
        have hK15 := (kp_below (X := X0) hb14).trans (kp_below hC)
        have hb15 := hb14.trans (hC.mono hb14.size)
        have hfx15 := HFx.out.below hb15
        have hMk := mark_cfg gx hs.length hs.length W8.heap.size (hget hs) usx w7 hfx15 (by rw [← HKn.out]; have := HK5.out; omega)
        rw [← HKn.out] at hMk
        have hcy15 := HCy.out.keep (hb15.block gy HGyl.out)
        obtain ⟨_, _, _, _, _, _, _, _, k7, _⟩ := HXB.out _ (hK15.wide (fun b hb => HX12.out b (HX01.out b hb)))
        obtain ⟨q0, _⟩ := one_fact k7
        have HF15 := Lib.hid hfx15
        clear hb14 hC hb15 hfx15 k7
        obtain ⟨w15, hw15⟩ : ∃ x, x = w7 := ⟨_, rfl⟩
        rw [← hw15] at hK15 hMk q0 HF15 hcy15 ⊢
        clear hw15
        go_wp2_with fail
        refine hMk.mono ?_
        rintro e w16 ⟨rfl, _, hfr⟩
        have hKm : Kp X0 w15 w16 := by rw [hX0]; exact kp_frm hfr HF15.out HGx.out HUx.out
        have hK16 := hK15.trans hKm
        have hcy16 := hcy15.keep (hKm.block hcy15.lt HNy.out)
        have hMy := HMK.out gy w16 hcy16
        obtain ⟨_, _, _, _, _, _, _, _, _, k7, _⟩ := HXB.out _ (hK16.wide (fun b hb => HX12.out b (HX01.out b hb)))
        obtain ⟨p0, p1, p2, p3, p4, _⟩ := five_facts k7
        clear hMk hfr hK15 hKm hcy15 hcy16 k7 q0
        go_wp2_with fail
        refine hMy.mono ?_
        rintro e w17 ⟨rfl, hg17⟩
        have hK17 := (hK16.wide HX01.out).trans ((kp_grown hg17).wide HX1y.out)
        have ho17 := hK17.own HO12.out HNx.out
        obtain ⟨_, _, _, _, _, _, k6, k8, _, _, k9⟩ := HXB.out _ (hK17.wide HX12.out)
        have hE17 := HEH.out _ _ w17 (frow_own' ho17) (frow_own' k8)
        clear hMy hg17 hK16 p0 p1 p2 p3 p4
        obtain ⟨p0, p1, p2, p3, p4, _⟩ := five_facts k9
        obtain ⟨s0, s1, s2, s3, s4, _⟩ := five_facts k6
        clear k6 k8 k9
        go_wp2_with fail
        refine hE17.mono ?_
        rintro e w18 ⟨rfl, hb18⟩
        have hK18 := hK17.trans (kp_below hb18)
        have ho18 := own_below ho17 hb18
        have hM18 := HMA.out _ _ w18 ho18
        obtain ⟨_, _, _, _, _, _, _, _, _, _, k9⟩ := HXB.out _ (hK18.wide HX12.out)
        clear hE17 hK17 hb18 ho17 p0 p1 p2 p3 p4 s0 s1 s2 s3 s4
        obtain ⟨p0, p1, p2, p3, p4, _⟩ := five_facts k9
        clear k9
        go_wp2_with fail
        refine hM18.mono ?_
        rintro e w19 ⟨rfl, hm19, hg19⟩
        have hK19 := (hK18.wide HX12.out).trans ((kp_grown hg19).wide HX22.out)
        have hD19 := HHA.out _ w19 hm19
        obtain ⟨_, _, _, _, _, _, _, _, _, _, k9⟩ := HXB.out _ hK19
        clear hM18 hK18 hg19 ho18 p0 p1 p2 p3 p4
        obtain ⟨p0, p1, p2, p3, p4, _⟩ := five_facts k9
        clear k9
        have i4 := HM0.out
        go_wp2_with fail
        refine hD19.mono ?_
        rintro e w20 ⟨rfl, hb20⟩
        have hK20 := hK19.trans (kp_below hb20)
        have hm20 := hm19.keep hb20
        clear hD19 hK19 hb20 hm19 p0 p1 p2 p3 p4
        go_wp2_with fail
        have HSt : Hid (∀ (b : Nat) (W W' : World), StP w20.heap.size qv qt qh qf qb b W → Below W.heap.size W W' → StP w20.heap.size qv qt qh qf qb b W') := Lib.hid fun _ _ _ h hb => stp_stay h hb
        refine wp_region_lastU (by kernel_rfl) 10 (by kernel_rfl) (by kernel_rfl) (by kernel_rfl)
          (fun u => { tmps := #[.agg #[.slice va hs.length vc], .agg #[.string hverb, .string target, .string host, .slice ua fs.length uc, .string body], .pointer (some ⟨w.heap.size, 0, none⟩), .pointer (some ⟨w.heap.size + 1, 0, none⟩), .bool false, .int .i64 r2, .pointer (some ⟨cb8, 0, none⟩), .bool ok, .pointer (some ⟨w9.heap.size, 0, none⟩), .pointer (some ⟨w10.heap.size, 0, none⟩), .pointer (some ⟨w11.heap.size, 0, none⟩), .bool ok, .int .i64 k2, .int .i64 m, .int .i64 m, u 8, undef, .agg #[.slice va hs.length vc], .int .i64 1048576, .int .i64 r, .int .i64 r, .bool (decide (r < 0)), .agg #[.string hverb, .string target, .string host, .slice ua fs.length uc, .string body], .int .i64 r, .int .i64 r2, .int .i64 r2, .bool (decide (r2 < 0)), uz 5, uz 0, uz 1, uz 2, uz 3, uz 4, uz 6, .bool ok, .agg #[.slice va hs.length vc], .agg #[.slice (some ⟨gx, 0, none⟩) hs.length hs.length], .agg #[.string hverb, .string target, .string host, .slice ua fs.length uc, .string body], .agg #[.string hverb, .string target, .string host, .slice (some ⟨gy, 0, none⟩) fs.length fs.length, .string body], .tuple #[.agg #[.string qv, .string qt, .string qh, .slice a12 qf.length c12, .string qb], .bool ok], .agg #[.slice (some ⟨gx, 0, none⟩) hs.length hs.length], .agg #[.string hverb, .string target, .string host, .slice (some ⟨gy, 0, none⟩) fs.length fs.length, .string body], .tuple #[.agg #[.string qv, .string qt, .string qh, .slice a12 qf.length c12, .string qb], .bool ok], .agg #[.string qv, .string qt, .string qh, .slice a12 qf.length c12, .string qb], .bool ok, .agg #[.string qv, .string qt, .string qh, .slice a12 qf.length c12, .string qb], .agg #[.string qv, .string qt, .string qh, .slice a8 qf.length c8, .string qb], .bool true, .bool false, .bool false, .bool ok, .bool ok, .bool false, .bool false, ub 0, ub 1, ub 2, .bool true, .bool false, ux 0, ux 1, ux 2, .bool true, .bool false, .agg #[.slice (some ⟨gx, 0, none⟩) hs.length hs.length], .int .i64 1, .int .i64 (kn : Int), .agg #[.string hverb, .string target, .string host, .slice (some ⟨gy, 0, none⟩) fs.length fs.length, .string body], .int .i64 (kn : Int), .int .i64 k2, .int .i64 k2, .bool (decide (k2 < 0)), .bool (decide (k2 < 0)), .agg #[.string qv, .string qt, .string qh, .slice a12 qf.length c12, .string qb], .agg #[.string qv, .string qt, .string qh, .slice a8 qf.length c8, .string qb], .bool true, .bool false, .bool (decide (k2 < 0)), .bool (decide (k2 < 0)), .bool ok, .bool ok, .bool false, .bool (decide (k2 < 0)), .agg #[.string qv, .string qt, .string qh, .slice a12 qf.length c12, .string qb], .int .i64 1, .int .i64 m, .agg #[.string qv, .string qt, .string qh, .slice a12 qf.length c12, .string qb], .int .i64 1, .int .i64 m, .int .i64 m, .bool (decide (m < 0)), .int .i64 m, .int .i64 m, .bool false, u 5, u 0, u 1, u 2, u 3, u 4, u 6, u 7, undef, undef, undef, undef, undef, undef, undef, undef, undef, undef, undef, undef, undef, undef, undef, undef, undef], defers := [] })
          (fun L u W => CU w20 8 9 #[.string ⟨#[]⟩, .string ⟨#[]⟩, .string ⟨#[]⟩, .slice none 0 0, .string ⟨#[]⟩] 40 (StP w20.heap.size qv qt qh qf qb) L u W)
          (RU [(fun v _ => v = .agg #[.slice va hs.length vc]), (fun _ _ => True), (fun v _ => v = .agg #[.string hverb, .string target, .string host, .slice ua fs.length uc, .string body]), (fun _ _ => True), EHq qv qt qh qb ok, EHq qv qt qh qb ok, (fun _ _ => True), (fun v _ => v = .bool ok), (fun _ _ => True), (fun _ _ => True)] [(fun _ _ => True), KCf hs, (fun _ _ => True), RHd ⟨hverb, target, host, fs, body⟩, RHq w20.heap.size qv qt qh qf qb ok, RHq w20.heap.size qv qt qh qf qb ok, RHp w20.heap.size qv qt qh qf qb, (fun _ _ => True), (fun _ _ => True), (fun _ _ => True)] 9)
          (fun j w w' => j = 9 ∨ Below w.heap.size w w') (fun _ => undef) ⟨(Below.refl _ _).drew, fun h => h.elim⟩
          (fun i j L v w1 w2 _ _ hij _ _ _ _ hR hle => ru_stay (by exact ⟨blank_eq _, blank_t, blank_eq _, blank_t, blank_hq, blank_hq, blank_t, blank_eq _, blank_t, blank_t, trivial⟩) (by exact ⟨steadyr_t, steady_kcf hs, steadyr_t, steady_hd ⟨hverb, target, host, fs, body⟩, steady_hq, steady_hq, steady_hp, steadyr_t, steadyr_t, steadyr_t, trivial⟩) hR hle) ?_ ?_
        · intro i hi L u w7 hL hcl hdl hC hd
          obtain ⟨_, k0, k2, k3, k4, k5, _⟩ := HXB.out _ (hK20.trans (kp_below hC.1))
          obtain ⟨t0, _⟩ := one_fact k4
          obtain ⟨t1, t2, t3, t4, t5, _⟩ := five_facts k5
          match i, hi with
          | 0, _ =>
            refine wpOp_step rfl (fun K hK => ?_)
            clear hd
            go_simp
            exact hK _ _ ⟨_, rfl, ⟨rfl, fun _ => trivial⟩, .inr (Below.refl _ _), hC.same (by decide) (by decide) _⟩
          | 1, _ =>
            have e0 : u 0 = .agg #[.slice va hs.length vc] := (hd 0 (dep_of (by kernel_rfl))).1
            have hT := to_cfg _ hs w7 k2 hn HM.out
            refine wpOp_step rfl (fun K hK => ?_)
            clear hd
            go_simp
            refine hT.mono ?_
            rintro e w8 ⟨g2, G2, rfl, ho8, hb8⟩
            exact hK _ _ ⟨_, by simp [upd, e0], ⟨trivial, fun _ => ⟨_, _, rfl, ho8.row hn HM.out⟩⟩, .inr hb8, hC.keep (by decide) (by decide) (fun _ h => HSt.out _ _ _ h hb8) hb8 _⟩
          | 2, _ =>
            refine wpOp_step rfl (fun K hK => ?_)
            clear hd
            go_simp
            exact hK _ _ ⟨_, rfl, ⟨rfl, fun _ => trivial⟩, .inr (Below.refl _ _), hC.same (by decide) (by decide) _⟩
          | 3, _ =>
            have e2 : u 2 = .agg #[.string hverb, .string target, .string host, .slice ua fs.length uc, .string body] := (hd 2 (dep_of (by kernel_rfl))).1
            have hT := HT.out w7 k3
            refine wpOp_step rfl (fun K hK => ?_)
            clear hd
            go_simp
            refine hT.mono ?_
            rintro e w8 ⟨⟨g2, rfl, hf8, _⟩, hb8⟩
            exact hK _ _ ⟨_, by simp [upd, e2], ⟨trivial, fun _ => ⟨_, rfl, hf8⟩⟩, .inr hb8, hC.keep (by decide) (by decide) (fun _ h => HSt.out _ _ _ h hb8) hb8 _⟩
          | 4, _ =>
            have hq : ¬ L 9 := fun h => hL (hcl 5 (hcl 6 (hcl 9 h 6 (dep_of (by kernel_rfl))) 5 (dep_of (by kernel_rfl))) 4 (dep_of (by kernel_rfl)))
            obtain ⟨a1, c1, e1, hr1⟩ : KCf hs (u 1) w7 := (hd 1 (dep_of (by kernel_rfl))).2 hq
            obtain ⟨g3, e3, hr3⟩ : RHd ⟨hverb, target, host, fs, body⟩ (u 3) w7 := (hd 3 (dep_of (by kernel_rfl))).2 hq
            dsimp only at e3 hr3
            have hsz := hC.1.size
            have hT := HIm.out _ _ w7 hr1 hr3 k0.1 k0.2
            refine wpOp_step rfl (fun K hK => ?_)
            clear hd
            go_simp
            refine hT.mono ?_
            rintro e w8 ⟨⟨vr8, rfl, ho8⟩, hb8⟩
            exact hK _ _ ⟨_, by simp [upd, e1, e3], ⟨⟨vr8, rfl⟩, fun _ => ⟨vr8, rfl, own_base ho8 hsz⟩⟩, .inr hb8, hC.keep (by decide) (by decide) (fun _ h => HSt.out _ _ _ h hb8) hb8 _⟩
          | 5, _ =>
            have hq : ¬ L 9 := fun h => hL (hcl 6 (hcl 9 h 6 (dep_of (by kernel_rfl))) 5 (dep_of (by kernel_rfl)))
            obtain ⟨vr4, e4, ho4⟩ : RHq w20.heap.size qv qt qh qf qb ok (u 4) w7 := (hd 4 (dep_of (by kernel_rfl))).2 hq
            refine wpOp_step rfl (fun K hK => ?_)
            clear hd
            go_simp
            exact hK _ _ ⟨_, by simp [upd, e4], ⟨⟨vr4, rfl⟩, fun _ => ⟨vr4, rfl, ho4⟩⟩, .inr (Below.refl _ _), hC.same (by decide) (by decide) _⟩
          | 6, _ =>
            have hq : ¬ L 9 := fun h => hL (hcl 9 h 6 (dep_of (by kernel_rfl)))
            obtain ⟨vr5, e5, ho5⟩ : RHq w20.heap.size qv qt qh qf qb ok (u 5) w7 := (hd 5 (dep_of (by kernel_rfl))).2 hq
            refine wpOp_step rfl (fun K hK => ?_)
            clear hd
            go_simp
            exact hK _ _ ⟨_, by simp [upd, e5], ⟨trivial, fun _ => ⟨vr5, rfl, ho5⟩⟩, .inr (Below.refl _ _), hC.same (by decide) (by decide) _⟩
          | 7, _ =>
            obtain ⟨vr5, e5⟩ : EHq qv qt qh qb ok (u 5) w7 := (hd 5 (dep_of (by kernel_rfl))).1
            refine wpOp_step rfl (fun K hK => ?_)
            clear hd
            go_simp
            exact hK _ _ ⟨_, by simp [upd, e5], ⟨rfl, fun _ => trivial⟩, .inr (Below.refl _ _), hC.same (by decide) (by decide) _⟩
          | 8, _ =>
            have hq : ¬ L 9 := fun h => hL (hcl 9 h 8 (dep_of (by kernel_rfl)))
            refine wpOp_step rfl (fun K hK => ?_)
            clear hd
            go_simp
            exact hK _ _ ⟨_, rfl, ⟨trivial, fun _ => trivial⟩, .inr ((Below.refl _ _).alloc (Nat.le_refl _) _), hC.make (by decide) hq⟩
          | 9, _ =>
            obtain ⟨b, hu, hbB, hzz, _⟩ := hC.2 (hdl 8 (dep_of (by kernel_rfl)))
            have hc := hzz hL
            obtain ⟨vr6, e6, ho6⟩ : RHp w20.heap.size qv qt qh qf qb (u 6) w7 := (hd 6 (dep_of (by kernel_rfl))).2 hL
            obtain ⟨a6, c6, hv6⟩ := own_len2 ho6
            subst hv6
            obtain ⟨y0, y1, y2, y3, y4, f0, f1, f2, f3, f4⟩ := five_facts hc
            have HTo := Lib.hid (stp_told (qv := qv) (qt := qt) (qh := qh) (qb := qb) hc ho6)
            refine wpOp_step rfl (fun K hK => ?_)
            clear hd
            go_simp
            exact hK _ _ ⟨undef, by simp [upd, hu, e6], ⟨trivial, fun _ => trivial⟩, .inl rfl, hC.told (by decide) hu hbB (grown_set5 _ _ _ _ _ _ _) HTo.out _⟩
        · intro L ud w7 hC hall _ hd
          have e7 : ud 7 = .bool ok := (hd 7 (by decide)).1
          obtain ⟨cb21, hu, hbB, _, hst⟩ := hC.2 (hall 8 (by decide))
          obtain ⟨a21, c21, hY21, ho21, hne21⟩ := hst (hall 9 (by decide))
          have hD21 := hC.1
          obtain ⟨W21, hW21⟩ : ∃ W, W = w7 := ⟨_, rfl⟩
          rw [← hW21] at hY21 ho21 hD21 ⊢
          have HQ21 := Lib.hid (And.intro hY21 (And.intro ho21 (And.intro hD21 hne21)))
          clear hW21 hY21 ho21 hD21 hne21 hd hC hst hall
          refine wpOp_step rfl (fun K hK => ?_)
          go_simp
          refine hK _ _ ?_
          clear hK K e7 hu HSt
          obtain ⟨hY21, ho21, hD21, hne21⟩ := HQ21.out
          have hK21 := hK20.trans (kp_below hD21)
          obtain ⟨_, _, _, _, _, _, k6, k8, _⟩ := HXB.out _ hK21
          obtain ⟨p0, p1, p2, p3, p4, _⟩ := five_facts hY21
          obtain ⟨s0, s1, s2, s3, s4, _⟩ := five_facts k6
          have hE21 := HEH.out _ _ W21 (frow_own' ho21) (frow_own' k8)
          have hm21 := hm20.keep hD21
          clear hm20 hK20 hD21 hY21 ho21 hne21 k6 k8
          go_wp2_with fail
          refine hE21.mono ?_
          rintro e w22 ⟨rfl, hb22⟩
          have hK22 := hK21.trans (kp_below hb22)
          have hD22 := HHA.out _ w22 (hm21.keep hb22)
          obtain ⟨_, _, _, _, _, _, _, _, _, _, k9⟩ := HXB.out _ hK22
          obtain ⟨z0, z1, z2, z3, z4, _⟩ := five_facts k9
          clear hK21 hb22 hE21 hm21 p0 p1 p2 p3 p4 s0 s1 s2 s3 s4 k9
          go_wp2_with fail
          refine hD22.mono ?_
          rintro e w23 ⟨rfl, hb23⟩
          have HB := Lib.hid (HXB.out _ (hK22.trans (kp_below hb23))).1
          clear hK22 hD22 hb23 z0 z1 z2 z3 z4
          go_wp2_with fail
          go_ret
          exact ⟨rfl, HB.out⟩
namespace Lw
theorem fnExactPutAsk (w : World) (hL : laidMetH Tryz.prog Rows.fnExactPutAskRow.laid w) (v : Value) (hs : List Hs) (hH : HRow w v hs) (hN : HOks hs maxLen) (h : Hd) (u : Value) (hF : FRow w u h.fs) (hok : FOk h.fs maxLen) (b1 : h.verb.size ≤ maxLen) (b2 : h.target.size ≤ maxLen) (b3 : h.host.size ≤ maxLen) (b4 : h.body.size ≤ maxLen) :
    Calls Tryz.prog 11 #[.agg #[v], headV h u] w fun e w' => e = .returned (.bool true) ∧ Below w.heap.size w w' := by
  have hL' : laidMet Tryz.prog Rows.fnExactPutAskRow.laid w := hL
  exact law_putask hs v h u w hH hN hF hok b1 b2 b3 b4 (cls_of_head hL'.tail.tail.tail.tail) (tab_of_head hL'.tail.tail)
end Lw
end Go.Proofs.YtiepobifbkleaaaGreatDoor


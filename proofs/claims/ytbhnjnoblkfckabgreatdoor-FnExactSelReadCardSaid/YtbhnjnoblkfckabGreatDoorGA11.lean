import Derived.Test.YtbhnjnoblkfckabGreatDoorGA10
-- from XHtO
/- Walks: whether a request is ok, and a request written, by the program. -/
namespace Go.Proofs.YtbhnjnoblkfckabGreatDoor
open Go.RowKit

theorem body_split (v b : List UInt8) : bodyP v b = (bodyB b && (decide (b = []) || v == bPut)) := by
  unfold bodyP bodyB mostN
  by_cases hv : v = bPut
  · subst hv; simp
  · rw [if_neg hv]
    have : (v == bPut) = false := by simpa using hv
    rw [this, Bool.or_false]
    cases b with
    | nil => simp
    | cons x b => simp
def tgtB (t : List UInt8) : Bool := decide (canonL t = some t)
theorem hed_split (h : Hd) : hedB h = (verbB h.verb.data.toList && (tgtB h.target.data.toList && (hostB h.host.data.toList && ((decide (h.fs.length ≤ 6) && fldsB h.fs) && (bodyP h.verb.data.toList h.body.data.toList && decide ((headT h).length ≤ 300)))))) := by
  rw [body_split]
  unfold hedB tgtB fldsB
  generalize verbB h.verb.data.toList = a
  generalize decide (canonL h.target.data.toList = some h.target.data.toList) = b
  generalize hostB h.host.data.toList = c
  generalize decide (h.fs.length ≤ 6) = d
  generalize bodyB h.body.data.toList = e
  generalize (decide (h.body.data.toList = []) || h.verb.data.toList == bPut) = f
  generalize (h.fs.all fun f => fdB f && !ownB f.1.data.toList) = g
  generalize decide ((headT h).length ≤ 300) = i
  cases a <;> cases b <;> cases c <;> cases d <;> cases e <;> cases f <;> cases g <;> cases i <;> rfl

set_option maxRecDepth 100000 in
set_option maxHeartbeats 3200000 in
theorem impl_hedok (h : Hd) (v : Value) (w : World) (hv : FRow w v h.fs) (hok : FOk h.fs 281474976710656)
    (b1 : h.verb.size ≤ 1048576) (b2 : h.target.size ≤ 1048576) (b3 : h.host.size ≤ 1048576) (b4 : h.body.size ≤ 1048576) (hcls : Cls w) (htab : Tab w) :
    Calls Tryz.prog 32 #[.agg #[.string h.verb, .string h.target, .string h.host, v, .string h.body]] w fun e w' => e = .returned (.bool (hedB h)) ∧ Below w.heap.size w w' := by
  have hsp := hed_split h
  have hV := fun W => impl_verb h.verb W
  have hA := fun W hW => impl_target h.target W b2 hW
  have hA2 := fun W hW => impl_hok h.host W b3 hW
  have htg : decide (canonL h.target.data.toList = some h.target.data.toList) = tgtB h.target.data.toList := rfl
  rw [htg] at hA
  clear htg
  have hO := fun W hW hF => impl_others v h.fs W hF hok hW
  have hM := fun W => impl_most h.verb W
  have hB := fun W => impl_body h.verb h.body W (by unfold maxLen; omega)
  have hh6 : (decide (h.fs.length ≤ 6) && fldsB h.fs) = true → h.fs.length ≤ 6 := fun e => by rw [Bool.and_eq_true, decide_eq_true_eq] at e; exact e.1
  have hhb : bodyP h.verb.data.toList h.body.data.toList = true → h.body.size ≤ 20 := fun e => by
    unfold bodyP mostN at e
    rw [Bool.and_eq_true, decide_eq_true_eq, ← size_len] at e
    have := e.1
    split at this <;> omega
  have hH := fun W hF h6 hh h20 hc ht => impl_head h v W hF h6 hok hh (by omega) (by omega) h20 hc ht
  have hhl : (ByteArray.mk (headT h).toArray).size = (headT h).length := by rw [size_len]
  generalize (headT h).length = hlen at *
  generalize (ByteArray.mk (headT h).toArray) = HT at *
  generalize (decide (h.fs.length ≤ 6) && fldsB h.fs) = oB at *
  generalize tgtB h.target.data.toList = aB at *
  generalize hostB h.host.data.toList = sB at *
  generalize bodyP h.verb.data.toList h.body.data.toList = bB at *
  generalize verbB h.verb.data.toList = vB at *
  generalize mostN h.verb.data.toList = mN at *
  generalize hedB h = R at *
  obtain ⟨wA, hwA⟩ : ∃ wA, wA = w.alloc (.cells #[.string h.verb, .string h.target, .string h.host, v, .string h.body] 32) := ⟨_, rfl⟩
  have hsA : wA.heap.size = w.heap.size + 1 := by rw [hwA]; simp
  have hbA : Below w.heap.size w wA := by rw [hwA]; exact (Below.refl _ _).alloc (Nat.le_refl _) _
  have hcell : ∀ W, Below wA.heap.size wA W → W.heap[w.heap.size]? = some (.cells #[.string h.verb, .string h.target, .string h.host, v, .string h.body] 32 (0, 0)) := fun W hW =>
    (hW.block w.heap.size (by omega)).trans (by rw [hwA]; exact heap_alloc_new w _)
  have HCell := Lib.hid hcell
  have HW : Hid (∀ W, Below wA.heap.size wA W → Cls W ∧ Tab W ∧ FRow W v h.fs ∧ Below w.heap.size w W) := Lib.hid fun W hW => by
    have hb := hbA.trans (hW.mono (by omega))
    exact ⟨hcls.below hb (Nat.le_refl _), htab.below hb (Nat.le_refl _), hv.below (Nat.le_refl _) hb, hb⟩
  have HwA := Lib.hid hwA
  have HS := Lib.hid hsp
  have Hh6 := Lib.hid hh6; have Hhb := Lib.hid hhb; have HHl := Lib.hid hhl
  clear hcell hwA hbA hcls htab hv hsp hh6 hhb hhl
  go_enter Tryz.func32, Tryz.ntmps32
  go_wp2_with fail
  rw [← HwA.out]
  have hb0 : Below wA.heap.size wA wA := Below.refl _ _
  obtain ⟨t0, t1, t2, t3, t4, f0, f1, f2, f3, f4⟩ := five_facts (HCell.out _ hb0)
  refine (hV _).mono ?_
  rintro e w1 ⟨rfl, rfl⟩
  cases vB
  · have HF : Hid (R = false) := Lib.hid HS.out
    clear hV hA hA2 hO hB hM hH
    go_wp2_with fail
    have HX1 : Hid (∀ W, Below wA.heap.size wA W → W.heap[w.heap.size]? = some (.cells #[.string h.verb, .string h.target, .string h.host, v, .string h.body] 32 (0, 0)) ∧ Cls W ∧ Tab W ∧ FRow W v h.fs ∧ Below w.heap.size w W) := Lib.hid fun W hW => by
      have hk := hb0.trans (hW.mono (by have := hb0.size; omega))
      exact ⟨HCell.out W hk, HW.out W hk⟩
    clear hb0
    clear t0 t1 t2 t3 t4 f0 f1 f2 f3 f4
    refine wp_region_last (by kernel_rfl) 20 (by kernel_rfl) (by kernel_rfl) (by kernel_rfl)
      (fun z => { tmps := #[Value.agg #[Value.string h.verb, Value.string h.target, Value.string h.host, v, Value.string h.body], Value.pointer (some { block := w.heap.size, off := 0 }), Value.bool false, Value.bool false, Value.pointer (some { block := w.heap.size, off := 0 }), Value.string h.verb, Value.bool false, Value.bool false, undef, undef, undef, Value.bool false, Value.bool false, undef, undef, undef, Value.bool false, z 0, z 1, z 2, z 3, z 4, z 5, z 6, z 7, z 8, z 9, z 10, z 11, z 12, z 13, z 14, z 15, z 16, z 17, z 18, z 19], defers := [] })
      (fun _ W => Below wA.heap.size wA W)
      (fun i xv _ => xv = ([.bool false, .bool false, undef, undef, undef, .bool false, .bool false, undef, undef, undef, undef, undef, undef, .bool false, .bool false, undef, undef, undef, undef, .bool false] : List Value).getD i undef)
      (fun _ _ => True) (fun _ => undef) (Below.refl _ _).drew
      (fun _ _ _ _ _ h _ => h) ?_ ?_
    · intro i hi z w7 kk hkk hC hdp
      match i, hi with
      | 0, _ =>
        refine wpOp_step rfl (fun K hK => ?_)
        clear hdp
        go_simp
        exact hK _ _ ⟨.bool false, rfl, rfl, trivial, hC⟩
      | 1, _ =>
        have e0 : z 0 = .bool false := hdp 0 (dep_of (by kernel_rfl))
        refine wpOp_step rfl (fun K hK => ?_)
        clear hdp
        go_simp
        exact hK _ _ ⟨.bool false, by simp [upd, e0], rfl, trivial, hC⟩
      | 2, _ =>
        have e1 : z 1 = .bool false := hdp 1 (dep_of (by kernel_rfl))
        refine wpOp_step rfl (fun K hK => ?_)
        clear hdp
        go_simp
        exact hK _ _ ⟨undef, by simp [upd, e1], rfl, trivial, hC⟩
      | 3, _ =>
        have e1 : z 1 = .bool false := hdp 1 (dep_of (by kernel_rfl))
        refine wpOp_step rfl (fun K hK => ?_)
        clear hdp
        go_simp
        exact hK _ _ ⟨undef, by simp [upd, e1], rfl, trivial, hC⟩
      | 4, _ =>
        have e1 : z 1 = .bool false := hdp 1 (dep_of (by kernel_rfl))
        refine wpOp_step rfl (fun K hK => ?_)
        clear hdp
        go_simp
        exact hK _ _ ⟨undef, by simp [upd, e1], rfl, trivial, hC⟩
      | 5, _ =>
        have e1 : z 1 = .bool false := hdp 1 (dep_of (by kernel_rfl))
        have e4 : z 4 = undef := hdp 4 (dep_of (by kernel_rfl))
        refine wpOp_step rfl (fun K hK => ?_)
        clear hdp
        go_simp
        exact hK _ _ ⟨.bool false, by simp [upd, e1, e4], rfl, trivial, hC⟩
      | 6, _ =>
        have e5 : z 5 = .bool false := hdp 5 (dep_of (by kernel_rfl))
        refine wpOp_step rfl (fun K hK => ?_)
        clear hdp
        go_simp
        exact hK _ _ ⟨.bool false, by simp [upd, e5], rfl, trivial, hC⟩
      | 7, _ =>
        have e6 : z 6 = .bool false := hdp 6 (dep_of (by kernel_rfl))
        refine wpOp_step rfl (fun K hK => ?_)
        clear hdp
        go_simp
        exact hK _ _ ⟨undef, by simp [upd, e6], rfl, trivial, hC⟩
      | 8, _ =>
        have e6 : z 6 = .bool false := hdp 6 (dep_of (by kernel_rfl))
        refine wpOp_step rfl (fun K hK => ?_)
        clear hdp
        go_simp
        exact hK _ _ ⟨undef, by simp [upd, e6], rfl, trivial, hC⟩
      | 9, _ =>
        have e6 : z 6 = .bool false := hdp 6 (dep_of (by kernel_rfl))
        refine wpOp_step rfl (fun K hK => ?_)
        clear hdp
        go_simp
        exact hK _ _ ⟨undef, by simp [upd, e6], rfl, trivial, hC⟩
      | 10, _ =>
        have e6 : z 6 = .bool false := hdp 6 (dep_of (by kernel_rfl))
        refine wpOp_step rfl (fun K hK => ?_)
        clear hdp
        go_simp
        exact hK _ _ ⟨undef, by simp [upd, e6], rfl, trivial, hC⟩
      | 11, _ =>
        have e6 : z 6 = .bool false := hdp 6 (dep_of (by kernel_rfl))
        refine wpOp_step rfl (fun K hK => ?_)
        clear hdp
        go_simp
        exact hK _ _ ⟨undef, by simp [upd, e6], rfl, trivial, hC⟩
      | 12, _ =>
        have e6 : z 6 = .bool false := hdp 6 (dep_of (by kernel_rfl))
        refine wpOp_step rfl (fun K hK => ?_)
        clear hdp
        go_simp
        exact hK _ _ ⟨undef, by simp [upd, e6], rfl, trivial, hC⟩
      | 13, _ =>
        have e6 : z 6 = .bool false := hdp 6 (dep_of (by kernel_rfl))
        have e12 : z 12 = undef := hdp 12 (dep_of (by kernel_rfl))
        refine wpOp_step rfl (fun K hK => ?_)
        clear hdp
        go_simp
        exact hK _ _ ⟨.bool false, by simp [upd, e6, e12], rfl, trivial, hC⟩
      | 14, _ =>
        have e13 : z 13 = .bool false := hdp 13 (dep_of (by kernel_rfl))
        refine wpOp_step rfl (fun K hK => ?_)
        clear hdp
        go_simp
        exact hK _ _ ⟨.bool false, by simp [upd, e13], rfl, trivial, hC⟩
      | 15, _ =>
        have e14 : z 14 = .bool false := hdp 14 (dep_of (by kernel_rfl))
        refine wpOp_step rfl (fun K hK => ?_)
        clear hdp
        go_simp
        exact hK _ _ ⟨undef, by simp [upd, e14], rfl, trivial, hC⟩
      | 16, _ =>
        have e14 : z 14 = .bool false := hdp 14 (dep_of (by kernel_rfl))
        refine wpOp_step rfl (fun K hK => ?_)
        clear hdp
        go_simp
        exact hK _ _ ⟨undef, by simp [upd, e14], rfl, trivial, hC⟩
      | 17, _ =>
        have e14 : z 14 = .bool false := hdp 14 (dep_of (by kernel_rfl))
        refine wpOp_step rfl (fun K hK => ?_)
        clear hdp
        go_simp
        exact hK _ _ ⟨undef, by simp [upd, e14], rfl, trivial, hC⟩
      | 18, _ =>
        have e14 : z 14 = .bool false := hdp 14 (dep_of (by kernel_rfl))
        refine wpOp_step rfl (fun K hK => ?_)
        clear hdp
        go_simp
        exact hK _ _ ⟨undef, by simp [upd, e14], rfl, trivial, hC⟩
      | 19, _ =>
        have e14 : z 14 = .bool false := hdp 14 (dep_of (by kernel_rfl))
        have e18 : z 18 = undef := hdp 18 (dep_of (by kernel_rfl))
        refine wpOp_step rfl (fun K hK => ?_)
        clear hdp
        go_simp
        exact hK _ _ ⟨.bool false, by simp [upd, e14, e18], rfl, trivial, hC⟩
      | n + 20, hn => exact absurd hn (by omega)
    · intro z w7 kk hkk hC hdp
      have e19 : z 19 = .bool false := hdp 19 (by decide)
      refine wpOp_step rfl (fun K hK => ?_)
      clear hdp
      go_simp
      refine hK _ _ ?_
      clear hK K e19
      have HB := Lib.hid (HX1.out _ hC).2.2.2.2
      clear hC
      go_wp2
      go_ret
      rw [HF.out]; exact ⟨rfl, HB.out⟩
  go_wp2_with fail
  refine (hA _ (HW.out _ hb0).1).mono ?_
  rintro e w1 ⟨rfl, hb1⟩
  have hb01 := hb0.trans (hb1.mono (Nat.le_refl _))
  clear t0 t1 t2 t3 t4 f0 f1 f2 f3 f4
  obtain ⟨t0, t1, t2, t3, t4, f0, f1, f2, f3, f4⟩ := five_facts (HCell.out _ hb01)
  clear hb1 hb0 hV hA
  cases aB
  · have HF : Hid (R = false) := Lib.hid HS.out
    clear hA2 hO hB hM hH
    go_wp2_with fail
    have HX1 : Hid (∀ W, Below w1.heap.size w1 W → W.heap[w.heap.size]? = some (.cells #[.string h.verb, .string h.target, .string h.host, v, .string h.body] 32 (0, 0)) ∧ Cls W ∧ Tab W ∧ FRow W v h.fs ∧ Below w.heap.size w W) := Lib.hid fun W hW => by
      have hk := hb01.trans (hW.mono (by have := hb01.size; omega))
      exact ⟨HCell.out W hk, HW.out W hk⟩
    clear hb01
    clear t0 t1 t2 t3 t4 f0 f1 f2 f3 f4
    refine wp_region_last (by kernel_rfl) 20 (by kernel_rfl) (by kernel_rfl) (by kernel_rfl)
      (fun z => { tmps := #[Value.agg #[Value.string h.verb, Value.string h.target, Value.string h.host, v, Value.string h.body], Value.pointer (some { block := w.heap.size, off := 0 }), Value.bool false, Value.bool false, Value.pointer (some { block := w.heap.size, off := 0 }), Value.string h.verb, Value.bool true, Value.bool true, Value.pointer (some { block := w.heap.size, off := 1 }), Value.string h.target, Value.bool false, Value.bool false, Value.bool false, undef, undef, undef, Value.bool false, z 0, z 1, z 2, z 3, z 4, z 5, z 6, z 7, z 8, z 9, z 10, z 11, z 12, z 13, z 14, z 15, z 16, z 17, z 18, z 19], defers := [] })
      (fun _ W => Below w1.heap.size w1 W)
      (fun i xv _ => xv = ([.bool false, .bool false, undef, undef, undef, .bool false, .bool false, undef, undef, undef, undef, undef, undef, .bool false, .bool false, undef, undef, undef, undef, .bool false] : List Value).getD i undef)
      (fun _ _ => True) (fun _ => undef) (Below.refl _ _).drew
      (fun _ _ _ _ _ h _ => h) ?_ ?_
    · intro i hi z w7 kk hkk hC hdp
      match i, hi with
      | 0, _ =>
        refine wpOp_step rfl (fun K hK => ?_)
        clear hdp
        go_simp
        exact hK _ _ ⟨.bool false, rfl, rfl, trivial, hC⟩
      | 1, _ =>
        have e0 : z 0 = .bool false := hdp 0 (dep_of (by kernel_rfl))
        refine wpOp_step rfl (fun K hK => ?_)
        clear hdp
        go_simp
        exact hK _ _ ⟨.bool false, by simp [upd, e0], rfl, trivial, hC⟩
      | 2, _ =>
        have e1 : z 1 = .bool false := hdp 1 (dep_of (by kernel_rfl))
        refine wpOp_step rfl (fun K hK => ?_)
        clear hdp
        go_simp
        exact hK _ _ ⟨undef, by simp [upd, e1], rfl, trivial, hC⟩
      | 3, _ =>
        have e1 : z 1 = .bool false := hdp 1 (dep_of (by kernel_rfl))
        refine wpOp_step rfl (fun K hK => ?_)
        clear hdp
        go_simp
        exact hK _ _ ⟨undef, by simp [upd, e1], rfl, trivial, hC⟩
      | 4, _ =>
        have e1 : z 1 = .bool false := hdp 1 (dep_of (by kernel_rfl))
        refine wpOp_step rfl (fun K hK => ?_)
        clear hdp
        go_simp
        exact hK _ _ ⟨undef, by simp [upd, e1], rfl, trivial, hC⟩
      | 5, _ =>
        have e1 : z 1 = .bool false := hdp 1 (dep_of (by kernel_rfl))
        have e4 : z 4 = undef := hdp 4 (dep_of (by kernel_rfl))
        refine wpOp_step rfl (fun K hK => ?_)
        clear hdp
        go_simp
        exact hK _ _ ⟨.bool false, by simp [upd, e1, e4], rfl, trivial, hC⟩
      | 6, _ =>
        have e5 : z 5 = .bool false := hdp 5 (dep_of (by kernel_rfl))
        refine wpOp_step rfl (fun K hK => ?_)
        clear hdp
        go_simp
        exact hK _ _ ⟨.bool false, by simp [upd, e5], rfl, trivial, hC⟩
      | 7, _ =>
        have e6 : z 6 = .bool false := hdp 6 (dep_of (by kernel_rfl))
        refine wpOp_step rfl (fun K hK => ?_)
        clear hdp
        go_simp
        exact hK _ _ ⟨undef, by simp [upd, e6], rfl, trivial, hC⟩
      | 8, _ =>
        have e6 : z 6 = .bool false := hdp 6 (dep_of (by kernel_rfl))
        refine wpOp_step rfl (fun K hK => ?_)
        clear hdp
        go_simp
        exact hK _ _ ⟨undef, by simp [upd, e6], rfl, trivial, hC⟩
      | 9, _ =>
        have e6 : z 6 = .bool false := hdp 6 (dep_of (by kernel_rfl))
        refine wpOp_step rfl (fun K hK => ?_)
        clear hdp
        go_simp
        exact hK _ _ ⟨undef, by simp [upd, e6], rfl, trivial, hC⟩
      | 10, _ =>
        have e6 : z 6 = .bool false := hdp 6 (dep_of (by kernel_rfl))
        refine wpOp_step rfl (fun K hK => ?_)
        clear hdp
        go_simp
        exact hK _ _ ⟨undef, by simp [upd, e6], rfl, trivial, hC⟩
      | 11, _ =>
        have e6 : z 6 = .bool false := hdp 6 (dep_of (by kernel_rfl))
        refine wpOp_step rfl (fun K hK => ?_)
        clear hdp
        go_simp
        exact hK _ _ ⟨undef, by simp [upd, e6], rfl, trivial, hC⟩
      | 12, _ =>
        have e6 : z 6 = .bool false := hdp 6 (dep_of (by kernel_rfl))
        refine wpOp_step rfl (fun K hK => ?_)
        clear hdp
        go_simp
        exact hK _ _ ⟨undef, by simp [upd, e6], rfl, trivial, hC⟩
      | 13, _ =>
        have e6 : z 6 = .bool false := hdp 6 (dep_of (by kernel_rfl))
        have e12 : z 12 = undef := hdp 12 (dep_of (by kernel_rfl))
        refine wpOp_step rfl (fun K hK => ?_)
        clear hdp
        go_simp
        exact hK _ _ ⟨.bool false, by simp [upd, e6, e12], rfl, trivial, hC⟩
      | 14, _ =>
        have e13 : z 13 = .bool false := hdp 13 (dep_of (by kernel_rfl))
        refine wpOp_step rfl (fun K hK => ?_)
        clear hdp
        go_simp
        exact hK _ _ ⟨.bool false, by simp [upd, e13], rfl, trivial, hC⟩
      | 15, _ =>
        have e14 : z 14 = .bool false := hdp 14 (dep_of (by kernel_rfl))
        refine wpOp_step rfl (fun K hK => ?_)
        clear hdp
        go_simp
        exact hK _ _ ⟨undef, by simp [upd, e14], rfl, trivial, hC⟩
      | 16, _ =>
        have e14 : z 14 = .bool false := hdp 14 (dep_of (by kernel_rfl))
        refine wpOp_step rfl (fun K hK => ?_)
        clear hdp
        go_simp
        exact hK _ _ ⟨undef, by simp [upd, e14], rfl, trivial, hC⟩
      | 17, _ =>
        have e14 : z 14 = .bool false := hdp 14 (dep_of (by kernel_rfl))
        refine wpOp_step rfl (fun K hK => ?_)
        clear hdp
        go_simp
        exact hK _ _ ⟨undef, by simp [upd, e14], rfl, trivial, hC⟩
      | 18, _ =>
        have e14 : z 14 = .bool false := hdp 14 (dep_of (by kernel_rfl))
        refine wpOp_step rfl (fun K hK => ?_)
        clear hdp
        go_simp
        exact hK _ _ ⟨undef, by simp [upd, e14], rfl, trivial, hC⟩
      | 19, _ =>
        have e14 : z 14 = .bool false := hdp 14 (dep_of (by kernel_rfl))
        have e18 : z 18 = undef := hdp 18 (dep_of (by kernel_rfl))
        refine wpOp_step rfl (fun K hK => ?_)
        clear hdp
        go_simp
        exact hK _ _ ⟨.bool false, by simp [upd, e14, e18], rfl, trivial, hC⟩
      | n + 20, hn => exact absurd hn (by omega)
    · intro z w7 kk hkk hC hdp
      have e19 : z 19 = .bool false := hdp 19 (by decide)
      refine wpOp_step rfl (fun K hK => ?_)
      clear hdp
      go_simp
      refine hK _ _ ?_
      clear hK K e19
      have HB := Lib.hid (HX1.out _ hC).2.2.2.2
      clear hC
      go_wp2
      go_ret
      rw [HF.out]; exact ⟨rfl, HB.out⟩
  go_wp2_with fail
  refine (hA2 _ (HW.out _ hb01).1).mono ?_
  rintro e w1b ⟨rfl, hb1⟩
  have hb0b := hb01.trans (hb1.mono hb01.size)
  clear t0 t1 t2 t3 t4 f0 f1 f2 f3 f4
  obtain ⟨t0, t1, t2, t3, t4, f0, f1, f2, f3, f4⟩ := five_facts (HCell.out _ hb0b)
  clear hb1 hb01 hA2
  cases sB
  · have HF : Hid (R = false) := Lib.hid HS.out
    clear hO hB hM hH
    go_wp2_with fail
    have HX1 : Hid (∀ W, Below w1b.heap.size w1b W → W.heap[w.heap.size]? = some (.cells #[.string h.verb, .string h.target, .string h.host, v, .string h.body] 32 (0, 0)) ∧ Cls W ∧ Tab W ∧ FRow W v h.fs ∧ Below w.heap.size w W) := Lib.hid fun W hW => by
      have hk := hb0b.trans (hW.mono (by have := hb0b.size; omega))
      exact ⟨HCell.out W hk, HW.out W hk⟩
    clear hb0b
    clear t0 t1 t2 t3 t4 f0 f1 f2 f3 f4
    refine wp_region_last (by kernel_rfl) 20 (by kernel_rfl) (by kernel_rfl) (by kernel_rfl)
      (fun z => { tmps := #[Value.agg #[Value.string h.verb, Value.string h.target, Value.string h.host, v, Value.string h.body], Value.pointer (some { block := w.heap.size, off := 0 }), Value.bool false, Value.bool false, Value.pointer (some { block := w.heap.size, off := 0 }), Value.string h.verb, Value.bool true, Value.bool true, Value.pointer (some { block := w.heap.size, off := 1 }), Value.string h.target, Value.bool true, Value.bool true, Value.bool true, Value.pointer (some { block := w.heap.size, off := 2 }), Value.string h.host, Value.bool false, Value.bool false, z 0, z 1, z 2, z 3, z 4, z 5, z 6, z 7, z 8, z 9, z 10, z 11, z 12, z 13, z 14, z 15, z 16, z 17, z 18, z 19], defers := [] })
      (fun _ W => Below w1b.heap.size w1b W)
      (fun i xv _ => xv = ([.bool false, .bool false, undef, undef, undef, .bool false, .bool false, undef, undef, undef, undef, undef, undef, .bool false, .bool false, undef, undef, undef, undef, .bool false] : List Value).getD i undef)
      (fun _ _ => True) (fun _ => undef) (Below.refl _ _).drew
      (fun _ _ _ _ _ h _ => h) ?_ ?_
    · intro i hi z w7 kk hkk hC hdp
      match i, hi with
      | 0, _ =>
        refine wpOp_step rfl (fun K hK => ?_)
        clear hdp
        go_simp
        exact hK _ _ ⟨.bool false, rfl, rfl, trivial, hC⟩
      | 1, _ =>
        have e0 : z 0 = .bool false := hdp 0 (dep_of (by kernel_rfl))
        refine wpOp_step rfl (fun K hK => ?_)
        clear hdp
        go_simp
        exact hK _ _ ⟨.bool false, by simp [upd, e0], rfl, trivial, hC⟩
      | 2, _ =>
        have e1 : z 1 = .bool false := hdp 1 (dep_of (by kernel_rfl))
        refine wpOp_step rfl (fun K hK => ?_)
        clear hdp
        go_simp
        exact hK _ _ ⟨undef, by simp [upd, e1], rfl, trivial, hC⟩
      | 3, _ =>
        have e1 : z 1 = .bool false := hdp 1 (dep_of (by kernel_rfl))
        refine wpOp_step rfl (fun K hK => ?_)
        clear hdp
        go_simp
        exact hK _ _ ⟨undef, by simp [upd, e1], rfl, trivial, hC⟩
      | 4, _ =>
        have e1 : z 1 = .bool false := hdp 1 (dep_of (by kernel_rfl))
        refine wpOp_step rfl (fun K hK => ?_)
        clear hdp
        go_simp
        exact hK _ _ ⟨undef, by simp [upd, e1], rfl, trivial, hC⟩
      | 5, _ =>
        have e1 : z 1 = .bool false := hdp 1 (dep_of (by kernel_rfl))
        have e4 : z 4 = undef := hdp 4 (dep_of (by kernel_rfl))
        refine wpOp_step rfl (fun K hK => ?_)
        clear hdp
        go_simp
        exact hK _ _ ⟨.bool false, by simp [upd, e1, e4], rfl, trivial, hC⟩
      | 6, _ =>
        have e5 : z 5 = .bool false := hdp 5 (dep_of (by kernel_rfl))
        refine wpOp_step rfl (fun K hK => ?_)
        clear hdp
        go_simp
        exact hK _ _ ⟨.bool false, by simp [upd, e5], rfl, trivial, hC⟩
      | 7, _ =>
        have e6 : z 6 = .bool false := hdp 6 (dep_of (by kernel_rfl))
        refine wpOp_step rfl (fun K hK => ?_)
        clear hdp
        go_simp
        exact hK _ _ ⟨undef, by simp [upd, e6], rfl, trivial, hC⟩
      | 8, _ =>
        have e6 : z 6 = .bool false := hdp 6 (dep_of (by kernel_rfl))
        refine wpOp_step rfl (fun K hK => ?_)
        clear hdp
        go_simp
        exact hK _ _ ⟨undef, by simp [upd, e6], rfl, trivial, hC⟩
      | 9, _ =>
        have e6 : z 6 = .bool false := hdp 6 (dep_of (by kernel_rfl))
        refine wpOp_step rfl (fun K hK => ?_)
        clear hdp
        go_simp
        exact hK _ _ ⟨undef, by simp [upd, e6], rfl, trivial, hC⟩
      | 10, _ =>
        have e6 : z 6 = .bool false := hdp 6 (dep_of (by kernel_rfl))
        refine wpOp_step rfl (fun K hK => ?_)
        clear hdp
        go_simp
        exact hK _ _ ⟨undef, by simp [upd, e6], rfl, trivial, hC⟩
      | 11, _ =>
        have e6 : z 6 = .bool false := hdp 6 (dep_of (by kernel_rfl))
        refine wpOp_step rfl (fun K hK => ?_)
        clear hdp
        go_simp
        exact hK _ _ ⟨undef, by simp [upd, e6], rfl, trivial, hC⟩
      | 12, _ =>
        have e6 : z 6 = .bool false := hdp 6 (dep_of (by kernel_rfl))
        refine wpOp_step rfl (fun K hK => ?_)
        clear hdp
        go_simp
        exact hK _ _ ⟨undef, by simp [upd, e6], rfl, trivial, hC⟩
      | 13, _ =>
        have e6 : z 6 = .bool false := hdp 6 (dep_of (by kernel_rfl))
        have e12 : z 12 = undef := hdp 12 (dep_of (by kernel_rfl))
        refine wpOp_step rfl (fun K hK => ?_)
        clear hdp
        go_simp
        exact hK _ _ ⟨.bool false, by simp [upd, e6, e12], rfl, trivial, hC⟩
      | 14, _ =>
        have e13 : z 13 = .bool false := hdp 13 (dep_of (by kernel_rfl))
        refine wpOp_step rfl (fun K hK => ?_)
        clear hdp
        go_simp
        exact hK _ _ ⟨.bool false, by simp [upd, e13], rfl, trivial, hC⟩
      | 15, _ =>
        have e14 : z 14 = .bool false := hdp 14 (dep_of (by kernel_rfl))
        refine wpOp_step rfl (fun K hK => ?_)
        clear hdp
        go_simp
        exact hK _ _ ⟨undef, by simp [upd, e14], rfl, trivial, hC⟩
      | 16, _ =>
        have e14 : z 14 = .bool false := hdp 14 (dep_of (by kernel_rfl))
        refine wpOp_step rfl (fun K hK => ?_)
        clear hdp
        go_simp
        exact hK _ _ ⟨undef, by simp [upd, e14], rfl, trivial, hC⟩
      | 17, _ =>
        have e14 : z 14 = .bool false := hdp 14 (dep_of (by kernel_rfl))
        refine wpOp_step rfl (fun K hK => ?_)
        clear hdp
        go_simp
        exact hK _ _ ⟨undef, by simp [upd, e14], rfl, trivial, hC⟩
      | 18, _ =>
        have e14 : z 14 = .bool false := hdp 14 (dep_of (by kernel_rfl))
        refine wpOp_step rfl (fun K hK => ?_)
        clear hdp
        go_simp
        exact hK _ _ ⟨undef, by simp [upd, e14], rfl, trivial, hC⟩
      | 19, _ =>
        have e14 : z 14 = .bool false := hdp 14 (dep_of (by kernel_rfl))
        have e18 : z 18 = undef := hdp 18 (dep_of (by kernel_rfl))
        refine wpOp_step rfl (fun K hK => ?_)
        clear hdp
        go_simp
        exact hK _ _ ⟨.bool false, by simp [upd, e14, e18], rfl, trivial, hC⟩
      | n + 20, hn => exact absurd hn (by omega)
    · intro z w7 kk hkk hC hdp
      have e19 : z 19 = .bool false := hdp 19 (by decide)
      refine wpOp_step rfl (fun K hK => ?_)
      clear hdp
      go_simp
      refine hK _ _ ?_
      clear hK K e19
      have HB := Lib.hid (HX1.out _ hC).2.2.2.2
      clear hC
      go_wp2
      go_ret
      rw [HF.out]; exact ⟨rfl, HB.out⟩
  go_wp2_with fail
  have HX1 : Hid (∀ W, Below w1b.heap.size w1b W → W.heap[w.heap.size]? = some (.cells #[.string h.verb, .string h.target, .string h.host, v, .string h.body] 32 (0, 0)) ∧ Cls W ∧ Tab W ∧ FRow W v h.fs ∧ Below w.heap.size w W) := Lib.hid fun W hW => by
    have hk := hb0b.trans (hW.mono (by have := hb0b.size; omega))
    exact ⟨HCell.out W hk, HW.out W hk⟩
  clear hb0b
  clear t0 t1 t2 t3 t4 f0 f1 f2 f3 f4
  have HO := Lib.hid hO; have HB0 := Lib.hid hB; have HM := Lib.hid hM; have HH := Lib.hid hH
  clear hO hB hM hH
  cases oB
  · have HF : Hid (R = false) := Lib.hid HS.out
    clear HH HM HB0
    refine wp_region_last (by kernel_rfl) 20 (by kernel_rfl) (by kernel_rfl) (by kernel_rfl)
      (fun z => { tmps := #[Value.agg #[Value.string h.verb, Value.string h.target, Value.string h.host, v, Value.string h.body], Value.pointer (some { block := w.heap.size, off := 0 }), Value.bool false, Value.bool true, Value.pointer (some { block := w.heap.size, off := 0 }), Value.string h.verb, Value.bool true, Value.bool true, Value.pointer (some { block := w.heap.size, off := 1 }), Value.string h.target, Value.bool true, Value.bool true, Value.bool true, Value.pointer (some { block := w.heap.size, off := 2 }), Value.string h.host, Value.bool true, Value.bool true, z 0, z 1, z 2, z 3, z 4, z 5, z 6, z 7, z 8, z 9, z 10, z 11, z 12, z 13, z 14, z 15, z 16, z 17, z 18, z 19], defers := [] })
      (fun _ W => Below w1b.heap.size w1b W)
      (fun i xv _ => xv = ([.bool true, .bool true, .pointer (some ⟨w.heap.size, 3, none⟩), v, .bool false, .bool false, .bool false, undef, undef, undef, undef, undef, undef, .bool false, .bool false, undef, undef, undef, undef, .bool false] : List Value).getD i undef)
      (fun _ _ => True) (fun _ => undef) (Below.refl _ _).drew
      (fun _ _ _ _ _ h _ => h) ?_ ?_
    · intro i hi z w7 kk hkk hC hdp
      match i, hi with
      | 0, _ =>
        refine wpOp_step rfl (fun K hK => ?_)
        clear hdp
        go_simp
        exact hK _ _ ⟨.bool true, rfl, rfl, trivial, hC⟩
      | 1, _ =>
        have e0 : z 0 = .bool true := hdp 0 (dep_of (by kernel_rfl))
        refine wpOp_step rfl (fun K hK => ?_)
        clear hdp
        go_simp
        exact hK _ _ ⟨.bool true, by simp [upd, e0], rfl, trivial, hC⟩
      | 2, _ =>
        have e1 : z 1 = .bool true := hdp 1 (dep_of (by kernel_rfl))
        refine wpOp_step rfl (fun K hK => ?_)
        clear hdp
        go_simp
        exact hK _ _ ⟨.pointer (some ⟨w.heap.size, 3, none⟩), by simp [upd, e1], rfl, trivial, hC⟩
      | 3, _ =>
        obtain ⟨t0, t1, t2, t3, t4, _⟩ := five_facts (HX1.out w7 hC).1
        have e1 : z 1 = .bool true := hdp 1 (dep_of (by kernel_rfl))
        have e2 : z 2 = .pointer (some ⟨w.heap.size, 3, none⟩) := hdp 2 (dep_of (by kernel_rfl))
        refine wpOp_step rfl (fun K hK => ?_)
        clear hdp
        go_simp
        exact hK _ _ ⟨v, by simp [upd, e1, e2], rfl, trivial, hC⟩
      | 4, _ =>
        have e1 : z 1 = .bool true := hdp 1 (dep_of (by kernel_rfl))
        have e3 : z 3 = v := hdp 3 (dep_of (by kernel_rfl))
        have hT := HO.out w7 (HX1.out w7 hC).2.1 (HX1.out w7 hC).2.2.2.1
        refine wpOp_step rfl (fun K hK => ?_)
        clear hdp
        go_simp
        refine hT.mono ?_
        rintro e w8 ⟨rfl, hb8⟩
        exact hK _ _ ⟨.bool false, by simp [upd, e1, e3], rfl, trivial, hC.trans (hb8.mono hC.size)⟩
      | 5, _ =>
        have e1 : z 1 = .bool true := hdp 1 (dep_of (by kernel_rfl))
        have e4 : z 4 = .bool false := hdp 4 (dep_of (by kernel_rfl))
        refine wpOp_step rfl (fun K hK => ?_)
        clear hdp
        go_simp
        exact hK _ _ ⟨.bool false, by simp [upd, e1, e4], rfl, trivial, hC⟩
      | 6, _ =>
        have e5 : z 5 = .bool false := hdp 5 (dep_of (by kernel_rfl))
        refine wpOp_step rfl (fun K hK => ?_)
        clear hdp
        go_simp
        exact hK _ _ ⟨.bool false, by simp [upd, e5], rfl, trivial, hC⟩
      | 7, _ =>
        have e6 : z 6 = .bool false := hdp 6 (dep_of (by kernel_rfl))
        refine wpOp_step rfl (fun K hK => ?_)
        clear hdp
        go_simp
        exact hK _ _ ⟨undef, by simp [upd, e6], rfl, trivial, hC⟩
      | 8, _ =>
        have e6 : z 6 = .bool false := hdp 6 (dep_of (by kernel_rfl))
        refine wpOp_step rfl (fun K hK => ?_)
        clear hdp
        go_simp
        exact hK _ _ ⟨undef, by simp [upd, e6], rfl, trivial, hC⟩
      | 9, _ =>
        have e6 : z 6 = .bool false := hdp 6 (dep_of (by kernel_rfl))
        refine wpOp_step rfl (fun K hK => ?_)
        clear hdp
        go_simp
        exact hK _ _ ⟨undef, by simp [upd, e6], rfl, trivial, hC⟩
      | 10, _ =>
        have e6 : z 6 = .bool false := hdp 6 (dep_of (by kernel_rfl))
        refine wpOp_step rfl (fun K hK => ?_)
        clear hdp
        go_simp
        exact hK _ _ ⟨undef, by simp [upd, e6], rfl, trivial, hC⟩
      | 11, _ =>
        have e6 : z 6 = .bool false := hdp 6 (dep_of (by kernel_rfl))
        refine wpOp_step rfl (fun K hK => ?_)
        clear hdp
        go_simp
        exact hK _ _ ⟨undef, by simp [upd, e6], rfl, trivial, hC⟩
      | 12, _ =>
        have e6 : z 6 = .bool false := hdp 6 (dep_of (by kernel_rfl))
        refine wpOp_step rfl (fun K hK => ?_)
        clear hdp
        go_simp
        exact hK _ _ ⟨undef, by simp [upd, e6], rfl, trivial, hC⟩
      | 13, _ =>
        have e6 : z 6 = .bool false := hdp 6 (dep_of (by kernel_rfl))
        have e12 : z 12 = undef := hdp 12 (dep_of (by kernel_rfl))
        refine wpOp_step rfl (fun K hK => ?_)
        clear hdp
        go_simp
        exact hK _ _ ⟨.bool false, by simp [upd, e6, e12], rfl, trivial, hC⟩
      | 14, _ =>
        have e13 : z 13 = .bool false := hdp 13 (dep_of (by kernel_rfl))
        refine wpOp_step rfl (fun K hK => ?_)
        clear hdp
        go_simp
        exact hK _ _ ⟨.bool false, by simp [upd, e13], rfl, trivial, hC⟩
      | 15, _ =>
        have e14 : z 14 = .bool false := hdp 14 (dep_of (by kernel_rfl))
        refine wpOp_step rfl (fun K hK => ?_)
        clear hdp
        go_simp
        exact hK _ _ ⟨undef, by simp [upd, e14], rfl, trivial, hC⟩
      | 16, _ =>
        have e14 : z 14 = .bool false := hdp 14 (dep_of (by kernel_rfl))
        refine wpOp_step rfl (fun K hK => ?_)
        clear hdp
        go_simp
        exact hK _ _ ⟨undef, by simp [upd, e14], rfl, trivial, hC⟩
      | 17, _ =>
        have e14 : z 14 = .bool false := hdp 14 (dep_of (by kernel_rfl))
        refine wpOp_step rfl (fun K hK => ?_)
        clear hdp
        go_simp
        exact hK _ _ ⟨undef, by simp [upd, e14], rfl, trivial, hC⟩
      | 18, _ =>
        have e14 : z 14 = .bool false := hdp 14 (dep_of (by kernel_rfl))
        refine wpOp_step rfl (fun K hK => ?_)
        clear hdp
        go_simp
        exact hK _ _ ⟨undef, by simp [upd, e14], rfl, trivial, hC⟩
      | 19, _ =>
        have e14 : z 14 = .bool false := hdp 14 (dep_of (by kernel_rfl))
        have e18 : z 18 = undef := hdp 18 (dep_of (by kernel_rfl))
        refine wpOp_step rfl (fun K hK => ?_)
        clear hdp
        go_simp
        exact hK _ _ ⟨.bool false, by simp [upd, e14, e18], rfl, trivial, hC⟩
      | n + 20, hn => exact absurd hn (by omega)
    · intro z w7 kk hkk hC hdp
      have e19 : z 19 = .bool false := hdp 19 (by decide)
      refine wpOp_step rfl (fun K hK => ?_)
      clear hdp
      go_simp
      refine hK _ _ ?_
      clear hK K e19
      have HB := Lib.hid (HX1.out _ hC).2.2.2.2
      clear hC
      go_wp2
      go_ret
      rw [HF.out]; exact ⟨rfl, HB.out⟩
  cases bB
  · have HF : Hid (R = false) := Lib.hid HS.out
    clear HH
    refine wp_region_last (by kernel_rfl) 20 (by kernel_rfl) (by kernel_rfl) (by kernel_rfl)
      (fun z => { tmps := #[Value.agg #[Value.string h.verb, Value.string h.target, Value.string h.host, v, Value.string h.body], Value.pointer (some { block := w.heap.size, off := 0 }), Value.bool false, Value.bool true, Value.pointer (some { block := w.heap.size, off := 0 }), Value.string h.verb, Value.bool true, Value.bool true, Value.pointer (some { block := w.heap.size, off := 1 }), Value.string h.target, Value.bool true, Value.bool true, Value.bool true, Value.pointer (some { block := w.heap.size, off := 2 }), Value.string h.host, Value.bool true, Value.bool true, z 0, z 1, z 2, z 3, z 4, z 5, z 6, z 7, z 8, z 9, z 10, z 11, z 12, z 13, z 14, z 15, z 16, z 17, z 18, z 19], defers := [] })
      (fun _ W => Below w1b.heap.size w1b W)
      (fun i xv _ => xv = ([.bool true, .bool true, .pointer (some ⟨w.heap.size, 3, none⟩), v, .bool true, .bool true, .bool true, .pointer (some ⟨w.heap.size, 4, none⟩), .string h.body, .pointer (some ⟨w.heap.size, 0, none⟩), .string h.verb, .int .i64 (mN : Int), .bool false, .bool false, .bool false, undef, undef, undef, undef, .bool false] : List Value).getD i undef)
      (fun _ _ => True) (fun _ => undef) (Below.refl _ _).drew
      (fun _ _ _ _ _ h _ => h) ?_ ?_
    · intro i hi z w7 kk hkk hC hdp
      match i, hi with
      | 0, _ =>
        refine wpOp_step rfl (fun K hK => ?_)
        clear hdp
        go_simp
        exact hK _ _ ⟨.bool true, rfl, rfl, trivial, hC⟩
      | 1, _ =>
        have e0 : z 0 = .bool true := hdp 0 (dep_of (by kernel_rfl))
        refine wpOp_step rfl (fun K hK => ?_)
        clear hdp
        go_simp
        exact hK _ _ ⟨.bool true, by simp [upd, e0], rfl, trivial, hC⟩
      | 2, _ =>
        have e1 : z 1 = .bool true := hdp 1 (dep_of (by kernel_rfl))
        refine wpOp_step rfl (fun K hK => ?_)
        clear hdp
        go_simp
        exact hK _ _ ⟨.pointer (some ⟨w.heap.size, 3, none⟩), by simp [upd, e1], rfl, trivial, hC⟩
      | 3, _ =>
        obtain ⟨t0, t1, t2, t3, t4, _⟩ := five_facts (HX1.out w7 hC).1
        have e1 : z 1 = .bool true := hdp 1 (dep_of (by kernel_rfl))
        have e2 : z 2 = .pointer (some ⟨w.heap.size, 3, none⟩) := hdp 2 (dep_of (by kernel_rfl))
        refine wpOp_step rfl (fun K hK => ?_)
        clear hdp
        go_simp
        exact hK _ _ ⟨v, by simp [upd, e1, e2], rfl, trivial, hC⟩
      | 4, _ =>
        have e1 : z 1 = .bool true := hdp 1 (dep_of (by kernel_rfl))
        have e3 : z 3 = v := hdp 3 (dep_of (by kernel_rfl))
        have hT := HO.out w7 (HX1.out w7 hC).2.1 (HX1.out w7 hC).2.2.2.1
        refine wpOp_step rfl (fun K hK => ?_)
        clear hdp
        go_simp
        refine hT.mono ?_
        rintro e w8 ⟨rfl, hb8⟩
        exact hK _ _ ⟨.bool true, by simp [upd, e1, e3], rfl, trivial, hC.trans (hb8.mono hC.size)⟩
      | 5, _ =>
        have e1 : z 1 = .bool true := hdp 1 (dep_of (by kernel_rfl))
        have e4 : z 4 = .bool true := hdp 4 (dep_of (by kernel_rfl))
        refine wpOp_step rfl (fun K hK => ?_)
        clear hdp
        go_simp
        exact hK _ _ ⟨.bool true, by simp [upd, e1, e4], rfl, trivial, hC⟩
      | 6, _ =>
        have e5 : z 5 = .bool true := hdp 5 (dep_of (by kernel_rfl))
        refine wpOp_step rfl (fun K hK => ?_)
        clear hdp
        go_simp
        exact hK _ _ ⟨.bool true, by simp [upd, e5], rfl, trivial, hC⟩
      | 7, _ =>
        have e6 : z 6 = .bool true := hdp 6 (dep_of (by kernel_rfl))
        refine wpOp_step rfl (fun K hK => ?_)
        clear hdp
        go_simp
        exact hK _ _ ⟨.pointer (some ⟨w.heap.size, 4, none⟩), by simp [upd, e6], rfl, trivial, hC⟩
      | 8, _ =>
        obtain ⟨t0, t1, t2, t3, t4, _⟩ := five_facts (HX1.out w7 hC).1
        have e6 : z 6 = .bool true := hdp 6 (dep_of (by kernel_rfl))
        have e7 : z 7 = .pointer (some ⟨w.heap.size, 4, none⟩) := hdp 7 (dep_of (by kernel_rfl))
        refine wpOp_step rfl (fun K hK => ?_)
        clear hdp
        go_simp
        exact hK _ _ ⟨.string h.body, by simp [upd, e6, e7], rfl, trivial, hC⟩
      | 9, _ =>
        have e6 : z 6 = .bool true := hdp 6 (dep_of (by kernel_rfl))
        refine wpOp_step rfl (fun K hK => ?_)
        clear hdp
        go_simp
        exact hK _ _ ⟨.pointer (some ⟨w.heap.size, 0, none⟩), by simp [upd, e6], rfl, trivial, hC⟩
      | 10, _ =>
        obtain ⟨t0, t1, t2, t3, t4, _⟩ := five_facts (HX1.out w7 hC).1
        have e6 : z 6 = .bool true := hdp 6 (dep_of (by kernel_rfl))
        have e9 : z 9 = .pointer (some ⟨w.heap.size, 0, none⟩) := hdp 9 (dep_of (by kernel_rfl))
        refine wpOp_step rfl (fun K hK => ?_)
        clear hdp
        go_simp
        exact hK _ _ ⟨.string h.verb, by simp [upd, e6, e9], rfl, trivial, hC⟩
      | 11, _ =>
        have e6 : z 6 = .bool true := hdp 6 (dep_of (by kernel_rfl))
        have e10 : z 10 = .string h.verb := hdp 10 (dep_of (by kernel_rfl))
        have hT := HM.out w7
        refine wpOp_step rfl (fun K hK => ?_)
        clear hdp
        go_simp
        refine hT.mono ?_
        rintro e w8 ⟨rfl, rfl⟩
        exact hK _ _ ⟨.int .i64 (mN : Int), by simp [upd, e6, e10], rfl, trivial, hC⟩
      | 12, _ =>
        have e6 : z 6 = .bool true := hdp 6 (dep_of (by kernel_rfl))
        have e8 : z 8 = .string h.body := hdp 8 (dep_of (by kernel_rfl))
        have e11 : z 11 = .int .i64 (mN : Int) := hdp 11 (dep_of (by kernel_rfl))
        have hT := HB0.out w7
        refine wpOp_step rfl (fun K hK => ?_)
        clear hdp
        go_simp
        refine hT.mono ?_
        rintro e w8 ⟨rfl, rfl⟩
        exact hK _ _ ⟨.bool false, by simp [upd, e6, e8, e11], rfl, trivial, hC⟩
      | 13, _ =>
        have e6 : z 6 = .bool true := hdp 6 (dep_of (by kernel_rfl))
        have e12 : z 12 = .bool false := hdp 12 (dep_of (by kernel_rfl))
        refine wpOp_step rfl (fun K hK => ?_)
        clear hdp
        go_simp
        exact hK _ _ ⟨.bool false, by simp [upd, e6, e12], rfl, trivial, hC⟩
      | 14, _ =>
        have e13 : z 13 = .bool false := hdp 13 (dep_of (by kernel_rfl))
        refine wpOp_step rfl (fun K hK => ?_)
        clear hdp
        go_simp
        exact hK _ _ ⟨.bool false, by simp [upd, e13], rfl, trivial, hC⟩
      | 15, _ =>
        have e14 : z 14 = .bool false := hdp 14 (dep_of (by kernel_rfl))
        refine wpOp_step rfl (fun K hK => ?_)
        clear hdp
        go_simp
        exact hK _ _ ⟨undef, by simp [upd, e14], rfl, trivial, hC⟩
      | 16, _ =>
        have e14 : z 14 = .bool false := hdp 14 (dep_of (by kernel_rfl))
        refine wpOp_step rfl (fun K hK => ?_)
        clear hdp
        go_simp
        exact hK _ _ ⟨undef, by simp [upd, e14], rfl, trivial, hC⟩
      | 17, _ =>
        have e14 : z 14 = .bool false := hdp 14 (dep_of (by kernel_rfl))
        refine wpOp_step rfl (fun K hK => ?_)
        clear hdp
        go_simp
        exact hK _ _ ⟨undef, by simp [upd, e14], rfl, trivial, hC⟩
      | 18, _ =>
        have e14 : z 14 = .bool false := hdp 14 (dep_of (by kernel_rfl))
        refine wpOp_step rfl (fun K hK => ?_)
        clear hdp
        go_simp
        exact hK _ _ ⟨undef, by simp [upd, e14], rfl, trivial, hC⟩
      | 19, _ =>
        have e14 : z 14 = .bool false := hdp 14 (dep_of (by kernel_rfl))
        have e18 : z 18 = undef := hdp 18 (dep_of (by kernel_rfl))
        refine wpOp_step rfl (fun K hK => ?_)
        clear hdp
        go_simp
        exact hK _ _ ⟨.bool false, by simp [upd, e14, e18], rfl, trivial, hC⟩
      | n + 20, hn => exact absurd hn (by omega)
    · intro z w7 kk hkk hC hdp
      have e19 : z 19 = .bool false := hdp 19 (by decide)
      refine wpOp_step rfl (fun K hK => ?_)
      clear hdp
      go_simp
      refine hK _ _ ?_
      clear hK K e19
      have HB := Lib.hid (HX1.out _ hC).2.2.2.2
      clear hC
      go_wp2
      go_ret
      rw [HF.out]; exact ⟨rfl, HB.out⟩
  have h6 := Hh6.out (by first | rfl | trivial)
  have h20 := Hhb.out (by first | rfl | trivial)
  have hR : R = decide (hlen ≤ 300) := by rw [HS.out]; simp
  rw [← HHl.out] at hR
  have HR := Lib.hid hR
  clear hR
  by_cases h3 : HT.size ≤ 300
  · have HF : Hid (R = true) := Lib.hid (by rw [HR.out]; exact decide_eq_true h3)
    have I1 : Hid (HT.size ≤ 300) := Lib.hid h3
    refine wp_region_last (by kernel_rfl) 20 (by kernel_rfl) (by kernel_rfl) (by kernel_rfl)
      (fun z => { tmps := #[Value.agg #[Value.string h.verb, Value.string h.target, Value.string h.host, v, Value.string h.body], Value.pointer (some { block := w.heap.size, off := 0 }), Value.bool false, Value.bool true, Value.pointer (some { block := w.heap.size, off := 0 }), Value.string h.verb, Value.bool true, Value.bool true, Value.pointer (some { block := w.heap.size, off := 1 }), Value.string h.target, Value.bool true, Value.bool true, Value.bool true, Value.pointer (some { block := w.heap.size, off := 2 }), Value.string h.host, Value.bool true, Value.bool true, z 0, z 1, z 2, z 3, z 4, z 5, z 6, z 7, z 8, z 9, z 10, z 11, z 12, z 13, z 14, z 15, z 16, z 17, z 18, z 19], defers := [] })
      (fun _ W => Below w1b.heap.size w1b W)
      (fun i xv _ => xv = ([.bool true, .bool true, .pointer (some ⟨w.heap.size, 3, none⟩), v, .bool true, .bool true, .bool true, .pointer (some ⟨w.heap.size, 4, none⟩), .string h.body, .pointer (some ⟨w.heap.size, 0, none⟩), .string h.verb, .int .i64 (mN : Int), .bool true, .bool true, .bool true, .agg #[.string h.verb, .string h.target, .string h.host, v, .string h.body], .string HT, .int .i64 (HT.size : Int), .bool (decide ((HT.size : Int) ≤ 300)), .bool (decide ((HT.size : Int) ≤ 300))] : List Value).getD i undef)
      (fun _ _ => True) (fun _ => undef) (Below.refl _ _).drew
      (fun _ _ _ _ _ h _ => h) ?_ ?_
    · intro i hi z w7 kk hkk hC hdp
      match i, hi with
      | 0, _ =>
        refine wpOp_step rfl (fun K hK => ?_)
        clear hdp
        go_simp
        exact hK _ _ ⟨.bool true, rfl, rfl, trivial, hC⟩
      | 1, _ =>
        have e0 : z 0 = .bool true := hdp 0 (dep_of (by kernel_rfl))
        refine wpOp_step rfl (fun K hK => ?_)
        clear hdp
        go_simp
        exact hK _ _ ⟨.bool true, by simp [upd, e0], rfl, trivial, hC⟩
      | 2, _ =>
        have e1 : z 1 = .bool true := hdp 1 (dep_of (by kernel_rfl))
        refine wpOp_step rfl (fun K hK => ?_)
        clear hdp
        go_simp
        exact hK _ _ ⟨.pointer (some ⟨w.heap.size, 3, none⟩), by simp [upd, e1], rfl, trivial, hC⟩
      | 3, _ =>
        obtain ⟨t0, t1, t2, t3, t4, _⟩ := five_facts (HX1.out w7 hC).1
        have e1 : z 1 = .bool true := hdp 1 (dep_of (by kernel_rfl))
        have e2 : z 2 = .pointer (some ⟨w.heap.size, 3, none⟩) := hdp 2 (dep_of (by kernel_rfl))
        refine wpOp_step rfl (fun K hK => ?_)
        clear hdp
        go_simp
        exact hK _ _ ⟨v, by simp [upd, e1, e2], rfl, trivial, hC⟩
      | 4, _ =>
        have e1 : z 1 = .bool true := hdp 1 (dep_of (by kernel_rfl))
        have e3 : z 3 = v := hdp 3 (dep_of (by kernel_rfl))
        have hT := HO.out w7 (HX1.out w7 hC).2.1 (HX1.out w7 hC).2.2.2.1
        refine wpOp_step rfl (fun K hK => ?_)
        clear hdp
        go_simp
        refine hT.mono ?_
        rintro e w8 ⟨rfl, hb8⟩
        exact hK _ _ ⟨.bool true, by simp [upd, e1, e3], rfl, trivial, hC.trans (hb8.mono hC.size)⟩
      | 5, _ =>
        have e1 : z 1 = .bool true := hdp 1 (dep_of (by kernel_rfl))
        have e4 : z 4 = .bool true := hdp 4 (dep_of (by kernel_rfl))
        refine wpOp_step rfl (fun K hK => ?_)
        clear hdp
        go_simp
        exact hK _ _ ⟨.bool true, by simp [upd, e1, e4], rfl, trivial, hC⟩
      | 6, _ =>
        have e5 : z 5 = .bool true := hdp 5 (dep_of (by kernel_rfl))
        refine wpOp_step rfl (fun K hK => ?_)
        clear hdp
        go_simp
        exact hK _ _ ⟨.bool true, by simp [upd, e5], rfl, trivial, hC⟩
      | 7, _ =>
        have e6 : z 6 = .bool true := hdp 6 (dep_of (by kernel_rfl))
        refine wpOp_step rfl (fun K hK => ?_)
        clear hdp
        go_simp
        exact hK _ _ ⟨.pointer (some ⟨w.heap.size, 4, none⟩), by simp [upd, e6], rfl, trivial, hC⟩
      | 8, _ =>
        obtain ⟨t0, t1, t2, t3, t4, _⟩ := five_facts (HX1.out w7 hC).1
        have e6 : z 6 = .bool true := hdp 6 (dep_of (by kernel_rfl))
        have e7 : z 7 = .pointer (some ⟨w.heap.size, 4, none⟩) := hdp 7 (dep_of (by kernel_rfl))
        refine wpOp_step rfl (fun K hK => ?_)
        clear hdp
        go_simp
        exact hK _ _ ⟨.string h.body, by simp [upd, e6, e7], rfl, trivial, hC⟩
      | 9, _ =>
        have e6 : z 6 = .bool true := hdp 6 (dep_of (by kernel_rfl))
        refine wpOp_step rfl (fun K hK => ?_)
        clear hdp
        go_simp
        exact hK _ _ ⟨.pointer (some ⟨w.heap.size, 0, none⟩), by simp [upd, e6], rfl, trivial, hC⟩
      | 10, _ =>
        obtain ⟨t0, t1, t2, t3, t4, _⟩ := five_facts (HX1.out w7 hC).1
        have e6 : z 6 = .bool true := hdp 6 (dep_of (by kernel_rfl))
        have e9 : z 9 = .pointer (some ⟨w.heap.size, 0, none⟩) := hdp 9 (dep_of (by kernel_rfl))
        refine wpOp_step rfl (fun K hK => ?_)
        clear hdp
        go_simp
        exact hK _ _ ⟨.string h.verb, by simp [upd, e6, e9], rfl, trivial, hC⟩
      | 11, _ =>
        have e6 : z 6 = .bool true := hdp 6 (dep_of (by kernel_rfl))
        have e10 : z 10 = .string h.verb := hdp 10 (dep_of (by kernel_rfl))
        have hT := HM.out w7
        refine wpOp_step rfl (fun K hK => ?_)
        clear hdp
        go_simp
        refine hT.mono ?_
        rintro e w8 ⟨rfl, rfl⟩
        exact hK _ _ ⟨.int .i64 (mN : Int), by simp [upd, e6, e10], rfl, trivial, hC⟩
      | 12, _ =>
        have e6 : z 6 = .bool true := hdp 6 (dep_of (by kernel_rfl))
        have e8 : z 8 = .string h.body := hdp 8 (dep_of (by kernel_rfl))
        have e11 : z 11 = .int .i64 (mN : Int) := hdp 11 (dep_of (by kernel_rfl))
        have hT := HB0.out w7
        refine wpOp_step rfl (fun K hK => ?_)
        clear hdp
        go_simp
        refine hT.mono ?_
        rintro e w8 ⟨rfl, rfl⟩
        exact hK _ _ ⟨.bool true, by simp [upd, e6, e8, e11], rfl, trivial, hC⟩
      | 13, _ =>
        have e6 : z 6 = .bool true := hdp 6 (dep_of (by kernel_rfl))
        have e12 : z 12 = .bool true := hdp 12 (dep_of (by kernel_rfl))
        refine wpOp_step rfl (fun K hK => ?_)
        clear hdp
        go_simp
        exact hK _ _ ⟨.bool true, by simp [upd, e6, e12], rfl, trivial, hC⟩
      | 14, _ =>
        have e13 : z 13 = .bool true := hdp 13 (dep_of (by kernel_rfl))
        refine wpOp_step rfl (fun K hK => ?_)
        clear hdp
        go_simp
        exact hK _ _ ⟨.bool true, by simp [upd, e13], rfl, trivial, hC⟩
      | 15, _ =>
        obtain ⟨t0, t1, t2, t3, t4, _⟩ := five_facts (HX1.out w7 hC).1
        have e14 : z 14 = .bool true := hdp 14 (dep_of (by kernel_rfl))
        refine wpOp_step rfl (fun K hK => ?_)
        clear hdp
        go_simp
        exact hK _ _ ⟨.agg #[.string h.verb, .string h.target, .string h.host, v, .string h.body], by simp [upd, e14], rfl, trivial, hC⟩
      | 16, _ =>
        have e14 : z 14 = .bool true := hdp 14 (dep_of (by kernel_rfl))
        have e15 : z 15 = .agg #[.string h.verb, .string h.target, .string h.host, v, .string h.body] := hdp 15 (dep_of (by kernel_rfl))
        have hT := HH.out w7 (HX1.out w7 hC).2.2.2.1 h6 (by first | rfl | trivial) h20 (HX1.out w7 hC).2.1 (HX1.out w7 hC).2.2.1
        refine wpOp_step rfl (fun K hK => ?_)
        clear hdp
        go_simp
        refine hT.mono ?_
        rintro e w8 ⟨rfl, hb8⟩
        exact hK _ _ ⟨.string HT, by simp [upd, e14, e15], rfl, trivial, hC.trans (hb8.mono hC.size)⟩
      | 17, _ =>
        have e14 : z 14 = .bool true := hdp 14 (dep_of (by kernel_rfl))
        have e16 : z 16 = .string HT := hdp 16 (dep_of (by kernel_rfl))
        refine wpOp_step rfl (fun K hK => ?_)
        clear hdp
        go_simp
        exact hK _ _ ⟨.int .i64 (HT.size : Int), by simp [upd, e14, e16], rfl, trivial, hC⟩
      | 18, _ =>
        have e14 : z 14 = .bool true := hdp 14 (dep_of (by kernel_rfl))
        have e17 : z 17 = .int .i64 (HT.size : Int) := hdp 17 (dep_of (by kernel_rfl))
        refine wpOp_step rfl (fun K hK => ?_)
        clear hdp
        go_simp
        exact hK _ _ ⟨.bool (decide ((HT.size : Int) ≤ 300)), by simp [upd, e14, e17], rfl, trivial, hC⟩
      | 19, _ =>
        have e14 : z 14 = .bool true := hdp 14 (dep_of (by kernel_rfl))
        have e18 : z 18 = .bool (decide ((HT.size : Int) ≤ 300)) := hdp 18 (dep_of (by kernel_rfl))
        refine wpOp_step rfl (fun K hK => ?_)
        clear hdp
        go_simp
        exact hK _ _ ⟨.bool (decide ((HT.size : Int) ≤ 300)), by simp [upd, e14, e18], rfl, trivial, hC⟩
      | n + 20, hn => exact absurd hn (by omega)
    · intro z w7 kk hkk hC hdp
      have e19 : z 19 = .bool (decide ((HT.size : Int) ≤ 300)) := hdp 19 (by decide)
      refine wpOp_step rfl (fun K hK => ?_)
      clear hdp
      go_simp
      refine hK _ _ ?_
      clear hK K e19
      have HB := Lib.hid (HX1.out _ hC).2.2.2.2
      clear hC
      go_wp2
      go_ret
      refine ⟨?_, HB.out⟩
      rw [HF.out]
      show Ending.returned (.bool (decide ((HT.size : Int) ≤ 300))) = _
      rw [decide_eq_true (by have := I1.out; omega)]
  · have HF : Hid (R = false) := Lib.hid (by rw [HR.out]; exact decide_eq_false h3)
    have I1 : Hid (¬ HT.size ≤ 300) := Lib.hid h3
    refine wp_region_last (by kernel_rfl) 20 (by kernel_rfl) (by kernel_rfl) (by kernel_rfl)
      (fun z => { tmps := #[Value.agg #[Value.string h.verb, Value.string h.target, Value.string h.host, v, Value.string h.body], Value.pointer (some { block := w.heap.size, off := 0 }), Value.bool false, Value.bool true, Value.pointer (some { block := w.heap.size, off := 0 }), Value.string h.verb, Value.bool true, Value.bool true, Value.pointer (some { block := w.heap.size, off := 1 }), Value.string h.target, Value.bool true, Value.bool true, Value.bool true, Value.pointer (some { block := w.heap.size, off := 2 }), Value.string h.host, Value.bool true, Value.bool true, z 0, z 1, z 2, z 3, z 4, z 5, z 6, z 7, z 8, z 9, z 10, z 11, z 12, z 13, z 14, z 15, z 16, z 17, z 18, z 19], defers := [] })
      (fun _ W => Below w1b.heap.size w1b W)
      (fun i xv _ => xv = ([.bool true, .bool true, .pointer (some ⟨w.heap.size, 3, none⟩), v, .bool true, .bool true, .bool true, .pointer (some ⟨w.heap.size, 4, none⟩), .string h.body, .pointer (some ⟨w.heap.size, 0, none⟩), .string h.verb, .int .i64 (mN : Int), .bool true, .bool true, .bool true, .agg #[.string h.verb, .string h.target, .string h.host, v, .string h.body], .string HT, .int .i64 (HT.size : Int), .bool (decide ((HT.size : Int) ≤ 300)), .bool (decide ((HT.size : Int) ≤ 300))] : List Value).getD i undef)
      (fun _ _ => True) (fun _ => undef) (Below.refl _ _).drew
      (fun _ _ _ _ _ h _ => h) ?_ ?_
    · intro i hi z w7 kk hkk hC hdp
      match i, hi with
      | 0, _ =>
        refine wpOp_step rfl (fun K hK => ?_)
        clear hdp
        go_simp
        exact hK _ _ ⟨.bool true, rfl, rfl, trivial, hC⟩
      | 1, _ =>
        have e0 : z 0 = .bool true := hdp 0 (dep_of (by kernel_rfl))
        refine wpOp_step rfl (fun K hK => ?_)
        clear hdp
        go_simp
        exact hK _ _ ⟨.bool true, by simp [upd, e0], rfl, trivial, hC⟩
      | 2, _ =>
        have e1 : z 1 = .bool true := hdp 1 (dep_of (by kernel_rfl))
        refine wpOp_step rfl (fun K hK => ?_)
        clear hdp
        go_simp
        exact hK _ _ ⟨.pointer (some ⟨w.heap.size, 3, none⟩), by simp [upd, e1], rfl, trivial, hC⟩
      | 3, _ =>
        obtain ⟨t0, t1, t2, t3, t4, _⟩ := five_facts (HX1.out w7 hC).1
        have e1 : z 1 = .bool true := hdp 1 (dep_of (by kernel_rfl))
        have e2 : z 2 = .pointer (some ⟨w.heap.size, 3, none⟩) := hdp 2 (dep_of (by kernel_rfl))
        refine wpOp_step rfl (fun K hK => ?_)
        clear hdp
        go_simp
        exact hK _ _ ⟨v, by simp [upd, e1, e2], rfl, trivial, hC⟩
      | 4, _ =>
        have e1 : z 1 = .bool true := hdp 1 (dep_of (by kernel_rfl))
        have e3 : z 3 = v := hdp 3 (dep_of (by kernel_rfl))
        have hT := HO.out w7 (HX1.out w7 hC).2.1 (HX1.out w7 hC).2.2.2.1
        refine wpOp_step rfl (fun K hK => ?_)
        clear hdp
        go_simp
        refine hT.mono ?_
        rintro e w8 ⟨rfl, hb8⟩
        exact hK _ _ ⟨.bool true, by simp [upd, e1, e3], rfl, trivial, hC.trans (hb8.mono hC.size)⟩
      | 5, _ =>
        have e1 : z 1 = .bool true := hdp 1 (dep_of (by kernel_rfl))
        have e4 : z 4 = .bool true := hdp 4 (dep_of (by kernel_rfl))
        refine wpOp_step rfl (fun K hK => ?_)
        clear hdp
        go_simp
        exact hK _ _ ⟨.bool true, by simp [upd, e1, e4], rfl, trivial, hC⟩
      | 6, _ =>
        have e5 : z 5 = .bool true := hdp 5 (dep_of (by kernel_rfl))
        refine wpOp_step rfl (fun K hK => ?_)
        clear hdp
        go_simp
        exact hK _ _ ⟨.bool true, by simp [upd, e5], rfl, trivial, hC⟩
      | 7, _ =>
        have e6 : z 6 = .bool true := hdp 6 (dep_of (by kernel_rfl))
        refine wpOp_step rfl (fun K hK => ?_)
        clear hdp
        go_simp
        exact hK _ _ ⟨.pointer (some ⟨w.heap.size, 4, none⟩), by simp [upd, e6], rfl, trivial, hC⟩
      | 8, _ =>
        obtain ⟨t0, t1, t2, t3, t4, _⟩ := five_facts (HX1.out w7 hC).1
        have e6 : z 6 = .bool true := hdp 6 (dep_of (by kernel_rfl))
        have e7 : z 7 = .pointer (some ⟨w.heap.size, 4, none⟩) := hdp 7 (dep_of (by kernel_rfl))
        refine wpOp_step rfl (fun K hK => ?_)
        clear hdp
        go_simp
        exact hK _ _ ⟨.string h.body, by simp [upd, e6, e7], rfl, trivial, hC⟩
      | 9, _ =>
        have e6 : z 6 = .bool true := hdp 6 (dep_of (by kernel_rfl))
        refine wpOp_step rfl (fun K hK => ?_)
        clear hdp
        go_simp
        exact hK _ _ ⟨.pointer (some ⟨w.heap.size, 0, none⟩), by simp [upd, e6], rfl, trivial, hC⟩
      | 10, _ =>
        obtain ⟨t0, t1, t2, t3, t4, _⟩ := five_facts (HX1.out w7 hC).1
        have e6 : z 6 = .bool true := hdp 6 (dep_of (by kernel_rfl))
        have e9 : z 9 = .pointer (some ⟨w.heap.size, 0, none⟩) := hdp 9 (dep_of (by kernel_rfl))
        refine wpOp_step rfl (fun K hK => ?_)
        clear hdp
        go_simp
        exact hK _ _ ⟨.string h.verb, by simp [upd, e6, e9], rfl, trivial, hC⟩
      | 11, _ =>
        have e6 : z 6 = .bool true := hdp 6 (dep_of (by kernel_rfl))
        have e10 : z 10 = .string h.verb := hdp 10 (dep_of (by kernel_rfl))
        have hT := HM.out w7
        refine wpOp_step rfl (fun K hK => ?_)
        clear hdp
        go_simp
        refine hT.mono ?_
        rintro e w8 ⟨rfl, rfl⟩
        exact hK _ _ ⟨.int .i64 (mN : Int), by simp [upd, e6, e10], rfl, trivial, hC⟩
      | 12, _ =>
        have e6 : z 6 = .bool true := hdp 6 (dep_of (by kernel_rfl))
        have e8 : z 8 = .string h.body := hdp 8 (dep_of (by kernel_rfl))
        have e11 : z 11 = .int .i64 (mN : Int) := hdp 11 (dep_of (by kernel_rfl))
        have hT := HB0.out w7
        refine wpOp_step rfl (fun K hK => ?_)
        clear hdp
        go_simp
        refine hT.mono ?_
        rintro e w8 ⟨rfl, rfl⟩
        exact hK _ _ ⟨.bool true, by simp [upd, e6, e8, e11], rfl, trivial, hC⟩
      | 13, _ =>
        have e6 : z 6 = .bool true := hdp 6 (dep_of (by kernel_rfl))
        have e12 : z 12 = .bool true := hdp 12 (dep_of (by kernel_rfl))
        refine wpOp_step rfl (fun K hK => ?_)
        clear hdp
        go_simp
        exact hK _ _ ⟨.bool true, by simp [upd, e6, e12], rfl, trivial, hC⟩
      | 14, _ =>
        have e13 : z 13 = .bool true := hdp 13 (dep_of (by kernel_rfl))
        refine wpOp_step rfl (fun K hK => ?_)
        clear hdp
        go_simp
        exact hK _ _ ⟨.bool true, by simp [upd, e13], rfl, trivial, hC⟩
      | 15, _ =>
        obtain ⟨t0, t1, t2, t3, t4, _⟩ := five_facts (HX1.out w7 hC).1
        have e14 : z 14 = .bool true := hdp 14 (dep_of (by kernel_rfl))
        refine wpOp_step rfl (fun K hK => ?_)
        clear hdp
        go_simp
        exact hK _ _ ⟨.agg #[.string h.verb, .string h.target, .string h.host, v, .string h.body], by simp [upd, e14], rfl, trivial, hC⟩
      | 16, _ =>
        have e14 : z 14 = .bool true := hdp 14 (dep_of (by kernel_rfl))
        have e15 : z 15 = .agg #[.string h.verb, .string h.target, .string h.host, v, .string h.body] := hdp 15 (dep_of (by kernel_rfl))
        have hT := HH.out w7 (HX1.out w7 hC).2.2.2.1 h6 (by first | rfl | trivial) h20 (HX1.out w7 hC).2.1 (HX1.out w7 hC).2.2.1
        refine wpOp_step rfl (fun K hK => ?_)
        clear hdp
        go_simp
        refine hT.mono ?_
        rintro e w8 ⟨rfl, hb8⟩
        exact hK _ _ ⟨.string HT, by simp [upd, e14, e15], rfl, trivial, hC.trans (hb8.mono hC.size)⟩
      | 17, _ =>
        have e14 : z 14 = .bool true := hdp 14 (dep_of (by kernel_rfl))
        have e16 : z 16 = .string HT := hdp 16 (dep_of (by kernel_rfl))
        refine wpOp_step rfl (fun K hK => ?_)
        clear hdp
        go_simp
        exact hK _ _ ⟨.int .i64 (HT.size : Int), by simp [upd, e14, e16], rfl, trivial, hC⟩
      | 18, _ =>
        have e14 : z 14 = .bool true := hdp 14 (dep_of (by kernel_rfl))
        have e17 : z 17 = .int .i64 (HT.size : Int) := hdp 17 (dep_of (by kernel_rfl))
        refine wpOp_step rfl (fun K hK => ?_)
        clear hdp
        go_simp
        exact hK _ _ ⟨.bool (decide ((HT.size : Int) ≤ 300)), by simp [upd, e14, e17], rfl, trivial, hC⟩
      | 19, _ =>
        have e14 : z 14 = .bool true := hdp 14 (dep_of (by kernel_rfl))
        have e18 : z 18 = .bool (decide ((HT.size : Int) ≤ 300)) := hdp 18 (dep_of (by kernel_rfl))
        refine wpOp_step rfl (fun K hK => ?_)
        clear hdp
        go_simp
        exact hK _ _ ⟨.bool (decide ((HT.size : Int) ≤ 300)), by simp [upd, e14, e18], rfl, trivial, hC⟩
      | n + 20, hn => exact absurd hn (by omega)
    · intro z w7 kk hkk hC hdp
      have e19 : z 19 = .bool (decide ((HT.size : Int) ≤ 300)) := hdp 19 (by decide)
      refine wpOp_step rfl (fun K hK => ?_)
      clear hdp
      go_simp
      refine hK _ _ ?_
      clear hK K e19
      have HB := Lib.hid (HX1.out _ hC).2.2.2.2
      clear hC
      go_wp2
      go_ret
      refine ⟨?_, HB.out⟩
      rw [HF.out]
      show Ending.returned (.bool (decide ((HT.size : Int) ≤ 300))) = _
      rw [decide_eq_false (by have := I1.out; omega)]

set_option maxRecDepth 100000 in
set_option maxHeartbeats 3200000 in
theorem impl_hedwrite (h : Hd) (v : Value) (w : World) (hv : FRow w v h.fs) (hok : FOk h.fs 281474976710656)
    (b1 : h.verb.size ≤ 1048576) (b2 : h.target.size ≤ 1048576) (b3 : h.host.size ≤ 1048576) (b4 : h.body.size ≤ 1048576) (hcls : Cls w) (htab : Tab w) :
    Calls Tryz.prog 33 #[.agg #[.string h.verb, .string h.target, .string h.host, v, .string h.body]] w fun e w' => e = .returned (.string (if hedB h = true then ⟨(hedT h).toArray⟩ else ⟨#[]⟩)) ∧ Below w.heap.size w w' := by
  have hO := fun W hF hc ht => impl_hedok h v W hF hok b1 b2 b3 b4 hc ht
  have hH := fun W hF h6 hh h20 hc ht => impl_head h v W hF h6 hok hh (by omega) (by omega) h20 hc ht
  have hfull : (⟨(headT h).toArray⟩ : ByteArray) ++ h.body = ⟨(hedT h).toArray⟩ := str_inj2 (by simp [hedT])
  have hgood : hedB h = true → h.fs.length ≤ 6 ∧ hostB h.host.data.toList = true ∧ h.body.size ≤ 20 ∧ (ByteArray.mk (headT h).toArray).size ≤ 300 := fun e => by
    have hk := hedB_iff.1 e
    exact ⟨hk.many, hk.host, by rw [size_len]; exact (body_len hk).1, by rw [size_len]; exact hk.len⟩
  generalize (ByteArray.mk (headT h).toArray) = HT at *
  generalize (ByteArray.mk (hedT h).toArray) = FT at *
  generalize hedB h = R at *
  obtain ⟨wA, hwA⟩ : ∃ wA, wA = w.alloc (.cells #[.string h.verb, .string h.target, .string h.host, v, .string h.body] 32) := ⟨_, rfl⟩
  have hsA : wA.heap.size = w.heap.size + 1 := by rw [hwA]; simp
  have hbA : Below w.heap.size w wA := by rw [hwA]; exact (Below.refl _ _).alloc (Nat.le_refl _) _
  have hcell : ∀ W, Below (w.heap.size + 1) wA W → W.heap[w.heap.size]? = some (.cells #[.string h.verb, .string h.target, .string h.host, v, .string h.body] 32 (0, 0)) := fun W hW =>
    (hW.block w.heap.size (by omega)).trans (by rw [hwA]; exact heap_alloc_new w _)
  have HCell := Lib.hid hcell
  have HW : Hid (∀ W, Below (w.heap.size + 1) wA W → Cls W ∧ Tab W ∧ FRow W v h.fs ∧ Below w.heap.size w W) := Lib.hid fun W hW => by
    have hb := hbA.trans (hW.mono (Nat.le_succ _))
    exact ⟨hcls.below hb (Nat.le_refl _), htab.below hb (Nat.le_refl _), hv.below (Nat.le_refl _) hb, hb⟩
  have HwA := Lib.hid hwA
  have HFull := Lib.hid hfull
  have HGood := Lib.hid hgood
  clear hcell hwA hbA hcls htab hv hok hfull hgood
  have hb0 : Below (w.heap.size + 1) wA wA := Below.refl _ _
  obtain ⟨t0, t1, t2, t3, t4, f0, f1, f2, f3, f4⟩ := five_facts (HCell.out _ hb0)
  have HT0 := Lib.hid (And.intro t0 (And.intro t1 (And.intro t2 (And.intro t3 t4))))
  clear t0 t1 t2 t3 t4 f0 f1 f2 f3 f4
  go_enter Tryz.func33, Tryz.ntmps33
  have hOA := hO _ (HW.out _ hb0).2.2.1 (HW.out _ hb0).1 (HW.out _ hb0).2.1
  rw [HwA.out] at hOA
  go_wp2_with fail
  refine hOA.mono ?_
  rintro e w1 ⟨rfl, hb1⟩
  rw [← HwA.out] at hb1
  have hb01 := hb0.trans (hb1.mono (by omega))
  obtain ⟨t0, t1, t2, t3, t4, f0, f1, f2, f3, f4⟩ := five_facts (HCell.out _ hb01)
  clear hb1 hb0 hO hOA
  cases R
  · have HB := Lib.hid (HW.out _ hb01).2.2.2
    clear hH hb01
    go_wp2
    go_ret
    exact ⟨rfl, HB.out⟩
  · have hg := HGood.out (by first | rfl | trivial)
    go_wp2_with fail
    clear t0 t1 t2 t3 t4 f0 f1 f2 f3 f4
    refine wp_region_last (by kernel_rfl) 5 (by kernel_rfl) (by kernel_rfl) (by kernel_rfl)
      (fun u => { tmps := #[.agg #[.string h.verb, .string h.target, .string h.host, v, .string h.body], .pointer (some ⟨w.heap.size, 0, none⟩), .string ⟨#[]⟩, .agg #[.string h.verb, .string h.target, .string h.host, v, .string h.body], .bool true, .bool false, u 0, u 1, u 2, u 3, u 4], defers := [] })
      (fun _ W => Below (w.heap.size + 1) wA W)
      (RAt [REq (.agg #[.string h.verb, .string h.target, .string h.host, v, .string h.body]), REq (.string HT), REq (.pointer (some ⟨w.heap.size, 4, none⟩)), REq (.string h.body), REq (.string FT)])
      (fun w w' => Below w.heap.size w w') (fun _ => undef) hb01.drew
      (fun i v w w' _ hR hle => steady_at (by exact ⟨steady_eq _, steady_eq _, steady_eq _, steady_eq _, steady_eq _, trivial⟩) v w w' hR hle) ?_ ?_
    · intro i hi u w2 k hk hC hd
      obtain ⟨t0, t1, t2, t3, t4, f0, f1, f2, f3, f4⟩ := five_facts (HCell.out _ hC)
      have hsz := hC.size
      match i, hi with
      | 0, _ =>
        refine wpOp_step rfl (fun K hK => ?_)
        clear hd
        go_simp
        exact hK _ _ ⟨_, rfl, rfl, Below.refl _ _, hC⟩
      | 1, _ =>
        have e0 : u 0 = .agg #[.string h.verb, .string h.target, .string h.host, v, .string h.body] := hd 0 (dep_of (by kernel_rfl))
        obtain ⟨k1, k2, k3, k4⟩ := HW.out _ hC
        have hH' := hH w2 k3 hg.1 hg.2.1 hg.2.2.1 k1 k2
        refine wpOp_step rfl (fun K hK => ?_)
        clear hd hH
        go_simp
        refine hH'.mono ?_
        rintro e w3 ⟨rfl, hb3⟩
        exact hK _ _ ⟨_, by simp [upd, e0], rfl, hb3, hC.trans (hb3.mono (by omega))⟩
      | 2, _ =>
        refine wpOp_step rfl (fun K hK => ?_)
        clear hd
        go_simp
        exact hK _ _ ⟨_, rfl, rfl, Below.refl _ _, hC⟩
      | 3, _ =>
        have e2 : u 2 = .pointer (some ⟨w.heap.size, 4, none⟩) := hd 2 (dep_of (by kernel_rfl))
        refine wpOp_step rfl (fun K hK => ?_)
        clear hd
        go_simp
        exact hK _ _ ⟨_, by simp [upd, e2], rfl, Below.refl _ _, hC⟩
      | 4, _ =>
        have e1 : u 1 = .string HT := hd 1 (dep_of (by kernel_rfl))
        have e3 : u 3 = .string h.body := hd 3 (dep_of (by kernel_rfl))
        have hz : ¬ (9223372036854775807 < HT.size + h.body.size) := by omega
        refine wpOp_step rfl (fun K hK => ?_)
        clear hd
        go_simp
        rw [HFull.out]
        exact hK _ _ ⟨_, by simp [upd, e1, e3], rfl, Below.refl _ _, hC⟩
    · intro u w2 k hk hC hd
      have e4 : u 4 = .string FT := hd 4 (by decide)
      have HB := Lib.hid (HW.out _ hC).2.2.2
      refine wpOp_step rfl (fun K hK => ?_)
      clear hd
      go_simp
      refine hK _ _ ?_
      clear hK K hC
      go_wp2
      go_ret
      exact ⟨rfl, HB.out⟩
end Go.Proofs.YtbhnjnoblkfckabGreatDoor


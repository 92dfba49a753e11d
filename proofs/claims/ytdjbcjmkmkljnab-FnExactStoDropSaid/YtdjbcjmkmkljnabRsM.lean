/- Walks: an answer made anew. -/
import Derived.Test.YtdjbcjmkmkljnabReg
import Derived.Test.YtdjbcjmkmkljnabRsW
import Derived.Test.YtdjbcjmkmkljnabCutB
namespace Go.Proofs.Ytdjbcjmkmkljnab
open Go.RowKit

set_option maxRecDepth 100000 in
set_option maxHeartbeats 3200000 in
theorem fresh_rsp (r : Rp) (w : World) (ht : r.tag.size ≤ 1048576) (hb : r.body.size ≤ 1048576) :
    Calls Try.prog 52 #[rspV r] w fun e w' => e = .returned (rspV r) ∧ Below w.heap.size w w' := by
  obtain ⟨c, m, hd, t, k, b⟩ := r
  unfold rspV
  dsimp only at ht hb ⊢
  have HT : Hid (∀ W, Calls Try.prog 47 #[.string t] W fun e w' => e = .returned (.string t) ∧ Below W.heap.size W w') := Lib.hid fun W => fresh t W (by omega)
  have HB : Hid (∀ W, Calls Try.prog 47 #[.string b] W fun e w' => e = .returned (.string b) ∧ Below W.heap.size W w') := Lib.hid fun W => fresh b W (by omega)
  obtain ⟨hz, hbA, h0, h1⟩ := rbox2 w (.cells #[.int .i64 c, .int .i64 m, .bool hd, .string t, .int .i64 k, .string b] 41) (.cells #[.int .i64 0, .int .i64 0, .bool false, .string ⟨#[]⟩, .int .i64 0, .string ⟨#[]⟩] 41)
  obtain ⟨wA, hwA⟩ : ∃ wA, wA = (w.alloc (.cells #[.int .i64 c, .int .i64 m, .bool hd, .string t, .int .i64 k, .string b] 41)).alloc (.cells #[.int .i64 0, .int .i64 0, .bool false, .string ⟨#[]⟩, .int .i64 0, .string ⟨#[]⟩] 41) := ⟨_, rfl⟩
  rw [← hwA] at hz hbA h0 h1
  have HX : Hid (∀ W, Below wA.heap.size wA W → Below w.heap.size w W ∧ W.heap[w.heap.size]? = some (.cells #[.int .i64 c, .int .i64 m, .bool hd, .string t, .int .i64 k, .string b] 41 (0, 0)) ∧ W.heap[w.heap.size + 1]? = some (.cells #[.int .i64 0, .int .i64 0, .bool false, .string ⟨#[]⟩, .int .i64 0, .string ⟨#[]⟩] 41 (0, 0))) := Lib.hid fun W hW =>
    ⟨hbA.trans (hW.mono (by omega)), (hW.block _ (by omega)).trans h0, (hW.block _ (by omega)).trans h1⟩
  have HW := Lib.hid hwA
  clear ht hb hbA h0 h1 hwA
  go_enter Try.func52, Try.ntmps52
  go_wp2_with fail
  rw [← HW.out]
  refine wp_region_all (by kernel_rfl) 10 (by kernel_rfl) (by kernel_rfl)
    (fun z => { tmps := #[.agg #[.int .i64 c, .int .i64 m, .bool hd, .string t, .int .i64 k, .string b], .pointer (some ⟨w.heap.size, 0, none⟩), .pointer (some ⟨w.heap.size + 1, 0, none⟩), z 0, z 1, z 2, z 3, z 4, z 5, z 6, z 8, undef], defers := [] })
    (fun _ W => Below wA.heap.size wA W)
    (fun i x _ => x = ([.pointer (some ⟨w.heap.size, 3, none⟩), .string t, .string t, .pointer (some ⟨w.heap.size, 5, none⟩), .string b, .string b, .pointer (some ⟨w.heap.size, 3, none⟩), undef, .pointer (some ⟨w.heap.size, 5, none⟩), undef] : List Value).getD i undef)
    (fun _ _ => True) (fun _ => undef) (Below.refl _ _).drew
    (fun _ _ _ _ _ h _ => h) ?_ ?_
  · intro i hi z w7 kk hkk hC hdp
    match i, hi with
    | 0, _ =>
      refine wpOp_step rfl (fun K hK => ?_)
      clear hdp
      go_simp
      exact hK _ _ ⟨.pointer (some ⟨w.heap.size, 3, none⟩), rfl, rfl, trivial, hC⟩
    | 1, _ =>
      have k0 := (HX.out w7 hC).2.1
      obtain ⟨q0, q1, q2, q3, q4, q5⟩ := six_facts k0
      have e0 : z 0 = .pointer (some ⟨w.heap.size, 3, none⟩) := hdp 0 (dep_of (by kernel_rfl))
      refine wpOp_step rfl (fun K hK => ?_)
      clear hdp
      go_simp
      exact hK _ _ ⟨.string t, by simp [upd, e0], rfl, trivial, hC⟩
    | 2, _ =>
      have e1 : z 1 = .string t := hdp 1 (dep_of (by kernel_rfl))
      have hT := HT.out w7
      refine wpOp_step rfl (fun K hK => ?_)
      clear hdp
      go_simp
      refine hT.mono ?_
      rintro e w8 ⟨rfl, hb8⟩
      exact hK _ _ ⟨.string t, by simp [upd, e1], rfl, trivial, hC.trans (hb8.mono hC.size)⟩
    | 3, _ =>
      refine wpOp_step rfl (fun K hK => ?_)
      clear hdp
      go_simp
      exact hK _ _ ⟨.pointer (some ⟨w.heap.size, 5, none⟩), rfl, rfl, trivial, hC⟩
    | 4, _ =>
      have k0 := (HX.out w7 hC).2.1
      obtain ⟨q0, q1, q2, q3, q4, q5⟩ := six_facts k0
      have e3 : z 3 = .pointer (some ⟨w.heap.size, 5, none⟩) := hdp 3 (dep_of (by kernel_rfl))
      refine wpOp_step rfl (fun K hK => ?_)
      clear hdp
      go_simp
      exact hK _ _ ⟨.string b, by simp [upd, e3], rfl, trivial, hC⟩
    | 5, _ =>
      have e4 : z 4 = .string b := hdp 4 (dep_of (by kernel_rfl))
      have hT := HB.out w7
      refine wpOp_step rfl (fun K hK => ?_)
      clear hdp
      go_simp
      refine hT.mono ?_
      rintro e w8 ⟨rfl, hb8⟩
      exact hK _ _ ⟨.string b, by simp [upd, e4], rfl, trivial, hC.trans (hb8.mono hC.size)⟩
    | 6, _ =>
      refine wpOp_step rfl (fun K hK => ?_)
      clear hdp
      go_simp
      exact hK _ _ ⟨.pointer (some ⟨w.heap.size, 3, none⟩), rfl, rfl, trivial, hC⟩
    | 7, _ =>
      have k0 := (HX.out w7 hC).2.1
      obtain ⟨y0, y1, y2, y3, y4, y5⟩ := six_frozen k0
      obtain ⟨q0, q1, q2, q3, q4, q5⟩ := six_facts k0
      have e2 : z 2 = .string t := hdp 2 (dep_of (by kernel_rfl))
      have e6 : z 6 = .pointer (some ⟨w.heap.size, 3, none⟩) := hdp 6 (dep_of (by kernel_rfl))
      refine wpOp_step rfl (fun K hK => ?_)
      clear hdp
      go_simp
      rw [setCell_id k0 rfl]
      refine hK _ _ ?_
      exact ⟨undef, by simp [upd, e2, e6], rfl, trivial, hC⟩
    | 8, _ =>
      refine wpOp_step rfl (fun K hK => ?_)
      clear hdp
      go_simp
      exact hK _ _ ⟨.pointer (some ⟨w.heap.size, 5, none⟩), rfl, rfl, trivial, hC⟩
    | 9, _ =>
      have k0 := (HX.out w7 hC).2.1
      obtain ⟨y0, y1, y2, y3, y4, y5⟩ := six_frozen k0
      obtain ⟨q0, q1, q2, q3, q4, q5⟩ := six_facts k0
      have e5 : z 5 = .string b := hdp 5 (dep_of (by kernel_rfl))
      have e8 : z 8 = .pointer (some ⟨w.heap.size, 5, none⟩) := hdp 8 (dep_of (by kernel_rfl))
      refine wpOp_step rfl (fun K hK => ?_)
      clear hdp
      go_simp
      rw [setCell_id k0 rfl]
      refine hK _ _ ?_
      exact ⟨undef, by simp [upd, e5, e8], rfl, trivial, hC⟩
    | n + 10, hn => exact absurd hn (by omega)
  · intro z w7 kk hkk hC hdp
    obtain ⟨k1, k2, k3⟩ := HX.out w7 hC
    obtain ⟨q0, q1, q2, q3, q4, q5⟩ := six_facts k2
    obtain ⟨y0, y1, y2, y3, y4, y5⟩ := six_frozen k3
    obtain ⟨x0, x1, x2, x3, x4, x5⟩ := six_facts k3
    have z := six_set k3 (.int .i64 c) (.int .i64 m) (.bool hd) (.string t) (.int .i64 k) (.string b)
    have HF : Hid (Below w.heap.size w (set6 w7 (w.heap.size + 1) (.int .i64 c) (.int .i64 m) (.bool hd) (.string t) (.int .i64 k) (.string b))) := Lib.hid (k1.grown (grown_set6 _ _ _ _ _ _ _ _) k1.size (fun k hk => by cases hk; omega))
    unfold set6 at z HF
    obtain ⟨z0, z1, z2, z3, z4, z5⟩ := six_facts z
    have HZ := Lib.hid (And.intro z0 (And.intro z1 (And.intro z2 (And.intro z3 (And.intro z4 z5)))))
    clear hC hdp k1 k2 k3 z z0 z1 z2 z3 z4 z5
    go_wp2
    obtain ⟨z0, z1, z2, z3, z4, z5⟩ := HZ.out
    refine bodyPost_ret (v := .agg #[.int .i64 c, .int .i64 m, .bool hd, .string t, .int .i64 k, .string b]) (by simp [results, Try.results52, go_sem, z0, z1, z2, z3, z4, z5]) rfl ?_
    exact ⟨rfl, HF.out⟩

end Go.Proofs.Ytdjbcjmkmkljnab

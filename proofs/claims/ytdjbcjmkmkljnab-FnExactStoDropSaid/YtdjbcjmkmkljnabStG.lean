/- Walks: an entry made anew. -/
import Derived.Test.YtdjbcjmkmkljnabStW
import Derived.Test.YtdjbcjmkmkljnabRsM
namespace Go.Proofs.Ytdjbcjmkmkljnab
open Go.RowKit

set_option maxRecDepth 100000 in
set_option maxHeartbeats 3200000 in
theorem fresh_entry (e : En) (w : World) (he : EnOk 1048576 e) :
    Calls Try.prog 41 #[enV e] w fun e' w' => e' = .returned (enV e) ∧ Below w.heap.size w w' := by
  have hp := he.place
  have ht := he.tag
  have hb := he.body
  obtain ⟨p, m, ⟨c, x, hd, t, k, b⟩, a⟩ := e
  unfold enV
  dsimp only at hp ht hb ⊢
  have HP : Hid (∀ W, Calls Try.prog 47 #[.string p] W fun e w' => e = .returned (.string p) ∧ Below W.heap.size W w') := Lib.hid fun W => fresh p W (by omega)
  have HR : Hid (∀ W, Calls Try.prog 52 #[.agg #[.int .i64 c, .int .i64 x, .bool hd, .string t, .int .i64 k, .string b]] W fun e w' => e = .returned (.agg #[.int .i64 c, .int .i64 x, .bool hd, .string t, .int .i64 k, .string b]) ∧ Below W.heap.size W w') := Lib.hid fun W => fresh_rsp ⟨c, x, hd, t, k, b⟩ W ht hb
  obtain ⟨hz, hbA, h0, h1⟩ := rbox2 w (.cells #[.string p, .int .i64 m, .int .i64 c, .int .i64 x, .bool hd, .string t, .int .i64 k, .string b, .int .i64 a] 43) (.cells #[.string ⟨#[]⟩, .int .i64 0, .int .i64 0, .int .i64 0, .bool false, .string ⟨#[]⟩, .int .i64 0, .string ⟨#[]⟩, .int .i64 0] 43)
  obtain ⟨wA, hwA⟩ : ∃ wA, wA = (w.alloc (.cells #[.string p, .int .i64 m, .int .i64 c, .int .i64 x, .bool hd, .string t, .int .i64 k, .string b, .int .i64 a] 43)).alloc (.cells #[.string ⟨#[]⟩, .int .i64 0, .int .i64 0, .int .i64 0, .bool false, .string ⟨#[]⟩, .int .i64 0, .string ⟨#[]⟩, .int .i64 0] 43) := ⟨_, rfl⟩
  rw [← hwA] at hz hbA h0 h1
  have HX : Hid (∀ W, Below wA.heap.size wA W → Below w.heap.size w W ∧ W.heap[w.heap.size]? = some (.cells #[.string p, .int .i64 m, .int .i64 c, .int .i64 x, .bool hd, .string t, .int .i64 k, .string b, .int .i64 a] 43 (0, 0)) ∧ W.heap[w.heap.size + 1]? = some (.cells #[.string ⟨#[]⟩, .int .i64 0, .int .i64 0, .int .i64 0, .bool false, .string ⟨#[]⟩, .int .i64 0, .string ⟨#[]⟩, .int .i64 0] 43 (0, 0))) := Lib.hid fun W hW =>
    ⟨hbA.trans (hW.mono (by omega)), (hW.block _ (by omega)).trans h0, (hW.block _ (by omega)).trans h1⟩
  have HW := Lib.hid hwA
  clear ht hb hp hbA h0 h1 hwA he
  go_enter Try.func41, Try.ntmps41
  go_wp2_with fail
  rw [← HW.out]
  refine wp_region_all (by kernel_rfl) 10 (by kernel_rfl) (by kernel_rfl)
    (fun z => { tmps := #[.agg #[.string p, .int .i64 m, .int .i64 c, .int .i64 x, .bool hd, .string t, .int .i64 k, .string b, .int .i64 a], .pointer (some ⟨w.heap.size, 0, none⟩), .pointer (some ⟨w.heap.size + 1, 0, none⟩), z 0, z 1, z 2, z 3, z 4, z 5, z 6, z 8, undef], defers := [] })
    (fun _ W => Below wA.heap.size wA W)
    (fun i xv _ => xv = ([.pointer (some ⟨w.heap.size, 0, none⟩), .string p, .string p, .pointer (some ⟨w.heap.size, 2, none⟩), .agg #[.int .i64 c, .int .i64 x, .bool hd, .string t, .int .i64 k, .string b], .agg #[.int .i64 c, .int .i64 x, .bool hd, .string t, .int .i64 k, .string b], .pointer (some ⟨w.heap.size, 0, none⟩), undef, .pointer (some ⟨w.heap.size, 2, none⟩), undef] : List Value).getD i undef)
    (fun _ _ => True) (fun _ => undef) (Below.refl _ _).drew
    (fun _ _ _ _ _ h _ => h) ?_ ?_
  · intro i hi z w7 kk hkk hC hdp
    match i, hi with
    | 0, _ =>
      refine wpOp_step rfl (fun K hK => ?_)
      clear hdp
      go_simp
      exact hK _ _ ⟨.pointer (some ⟨w.heap.size, 0, none⟩), rfl, rfl, trivial, hC⟩
    | 1, _ =>
      have k0 := (HX.out w7 hC).2.1
      obtain ⟨q0, q1, q2, q3, q4, q5, q6, q7, q8⟩ := nine_facts k0
      have e0 : z 0 = .pointer (some ⟨w.heap.size, 0, none⟩) := hdp 0 (dep_of (by kernel_rfl))
      refine wpOp_step rfl (fun K hK => ?_)
      clear hdp
      go_simp
      exact hK _ _ ⟨.string p, by simp [upd, e0], rfl, trivial, hC⟩
    | 2, _ =>
      have e1 : z 1 = .string p := hdp 1 (dep_of (by kernel_rfl))
      have hT := HP.out w7
      refine wpOp_step rfl (fun K hK => ?_)
      clear hdp
      go_simp
      refine hT.mono ?_
      rintro e w8 ⟨rfl, hb8⟩
      exact hK _ _ ⟨.string p, by simp [upd, e1], rfl, trivial, hC.trans (hb8.mono hC.size)⟩
    | 3, _ =>
      refine wpOp_step rfl (fun K hK => ?_)
      clear hdp
      go_simp
      exact hK _ _ ⟨.pointer (some ⟨w.heap.size, 2, none⟩), rfl, rfl, trivial, hC⟩
    | 4, _ =>
      have k0 := (HX.out w7 hC).2.1
      obtain ⟨q0, q1, q2, q3, q4, q5, q6, q7, q8⟩ := nine_facts k0
      have e3 : z 3 = .pointer (some ⟨w.heap.size, 2, none⟩) := hdp 3 (dep_of (by kernel_rfl))
      refine wpOp_step rfl (fun K hK => ?_)
      clear hdp
      go_simp
      exact hK _ _ ⟨.agg #[.int .i64 c, .int .i64 x, .bool hd, .string t, .int .i64 k, .string b], by simp [upd, e3], rfl, trivial, hC⟩
    | 5, _ =>
      have e4 : z 4 = .agg #[.int .i64 c, .int .i64 x, .bool hd, .string t, .int .i64 k, .string b] := hdp 4 (dep_of (by kernel_rfl))
      have hT := HR.out w7
      refine wpOp_step rfl (fun K hK => ?_)
      clear hdp
      go_simp
      refine hT.mono ?_
      rintro e w8 ⟨rfl, hb8⟩
      exact hK _ _ ⟨.agg #[.int .i64 c, .int .i64 x, .bool hd, .string t, .int .i64 k, .string b], by simp [upd, e4], rfl, trivial, hC.trans (hb8.mono hC.size)⟩
    | 6, _ =>
      refine wpOp_step rfl (fun K hK => ?_)
      clear hdp
      go_simp
      exact hK _ _ ⟨.pointer (some ⟨w.heap.size, 0, none⟩), rfl, rfl, trivial, hC⟩
    | 7, _ =>
      have k0 := (HX.out w7 hC).2.1
      obtain ⟨q0, q1, q2, q3, q4, q5, q6, q7, q8⟩ := nine_facts k0
      obtain ⟨y0, y1, y2, y3, y4, y5, y6, y7, y8⟩ := nine_frozen k0
      have e2 : z 2 = .string p := hdp 2 (dep_of (by kernel_rfl))
      have e6 : z 6 = .pointer (some ⟨w.heap.size, 0, none⟩) := hdp 6 (dep_of (by kernel_rfl))
      refine wpOp_step rfl (fun K hK => ?_)
      clear hdp
      go_simp
      rw [setCell_id k0 rfl]
      refine hK _ _ ?_
      exact ⟨undef, by simp [upd, e2, e6], rfl, trivial, hC⟩
    | 8, _ =>
      refine wpOp_step rfl (fun K hK => ?_)
      clear hdp
      go_simp
      exact hK _ _ ⟨.pointer (some ⟨w.heap.size, 2, none⟩), rfl, rfl, trivial, hC⟩
    | 9, _ =>
      have k0 := (HX.out w7 hC).2.1
      obtain ⟨q0, q1, q2, q3, q4, q5, q6, q7, q8⟩ := nine_facts k0
      obtain ⟨y0, y1, y2, y3, y4, y5, y6, y7, y8⟩ := nine_frozen k0
      have e5 : z 5 = .agg #[.int .i64 c, .int .i64 x, .bool hd, .string t, .int .i64 k, .string b] := hdp 5 (dep_of (by kernel_rfl))
      have e8 : z 8 = .pointer (some ⟨w.heap.size, 2, none⟩) := hdp 8 (dep_of (by kernel_rfl))
      refine wpOp_step rfl (fun K hK => ?_)
      clear hdp
      go_simp
      rw [setCell_id k0 rfl, setCell_id k0 rfl, setCell_id k0 rfl, setCell_id k0 rfl, setCell_id k0 rfl, setCell_id k0 rfl]
      refine hK _ _ ?_
      exact ⟨undef, by simp [upd, e5, e8], rfl, trivial, hC⟩
    | n + 10, hn => exact absurd hn (by omega)
  · intro z w7 kk hkk hC hdp
    obtain ⟨k1, k2, k3⟩ := HX.out w7 hC
    obtain ⟨q0, q1, q2, q3, q4, q5, q6, q7, q8⟩ := nine_facts k2
    obtain ⟨y0, y1, y2, y3, y4, y5, y6, y7, y8⟩ := nine_frozen k3
    obtain ⟨x0, x1, x2, x3, x4, x5, x6, x7, x8⟩ := nine_facts k3
    have z := nine_set k3 (.string p) (.int .i64 m) (.int .i64 c) (.int .i64 x) (.bool hd) (.string t) (.int .i64 k) (.string b) (.int .i64 a)
    have HF : Hid (Below w.heap.size w (set9 w7 (w.heap.size + 1) (.string p) (.int .i64 m) (.int .i64 c) (.int .i64 x) (.bool hd) (.string t) (.int .i64 k) (.string b) (.int .i64 a))) := Lib.hid (k1.grown (grown_set9 _ _ _ _ _ _ _ _ _ _ _) k1.size (fun k hk => by cases hk; omega))
    unfold set9 at z HF
    obtain ⟨z0, z1, z2, z3, z4, z5, z6, z7, z8⟩ := nine_facts z
    have HZ := Lib.hid (And.intro z0 (And.intro z1 (And.intro z2 (And.intro z3 (And.intro z4 (And.intro z5 (And.intro z6 (And.intro z7 z8))))))))
    clear hC hdp k1 k2 k3 z z0 z1 z2 z3 z4 z5 z6 z7 z8
    go_wp2
    obtain ⟨z0, z1, z2, z3, z4, z5, z6, z7, z8⟩ := HZ.out
    refine bodyPost_ret (v := .agg #[.string p, .int .i64 m, .int .i64 c, .int .i64 x, .bool hd, .string t, .int .i64 k, .string b, .int .i64 a]) (by simp [results, Try.results41, go_sem, z0, z1, z2, z3, z4, z5, z6, z7, z8]) rfl ?_
    exact ⟨rfl, HF.out⟩
end Go.Proofs.Ytdjbcjmkmkljnab

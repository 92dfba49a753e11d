/- Walks: a key's text, by the program. -/
import Derived.Test.YtiepobifbkleaaaDoorKyE
import Derived.Test.YtiepobifbkleaaaDoorRegR
namespace Go.Proofs.YtiepobifbkleaaaDoor
open Go.RowKit Go.Maps

set_option maxRecDepth 100000 in
set_option maxHeartbeats 1600000 in
theorem impl_keytext (k : Ky) (w : World) (hp : k.place.size ≤ 1048576) (hh : -9223372036854775808 ≤ k.house ∧ k.house ≤ 9223372036854775807) (hm : -9223372036854775808 ≤ k.mask ∧ k.mask ≤ 9223372036854775807) (ht : Tab w) :
    Calls Tryd.prog 14 #[keyV k] w fun e w' => e = .returned (.string ⟨(keyT k).toArray⟩) ∧ Below w.heap.size w w' := by
  obtain ⟨house, place, mask⟩ := k
  unfold keyV
  dsimp only at *
  obtain ⟨h0, h1⟩ := hh
  obtain ⟨m0, m1⟩ := hm
  obtain ⟨W1, hW1⟩ : ∃ W1, W1 = w.alloc (.cells #[.int .i64 house, .string place, .int .i64 mask] 34) := ⟨_, rfl⟩
  have hb1 : Below w.heap.size w W1 := by rw [hW1]; exact (Below.refl _ _).alloc (Nat.le_refl _) _
  have hz1 : W1.heap.size = w.heap.size + 1 := by rw [hW1]; simp
  have hA : W1.heap[w.heap.size]? = some (.cells #[.int .i64 house, .string place, .int .i64 mask] 34 (0, 0)) := by rw [hW1]; exact heap_alloc_new w _
  have hfin : (⟨(keyT ⟨house, place, mask⟩).toArray⟩ : ByteArray) = ((((⟨(numT house).toArray⟩ : ByteArray) ++ ⟨#[32]⟩) ++ ⟨(numT mask).toArray⟩) ++ ⟨#[32]⟩) ++ place := str_inj2 (by simp [keyT])
  have hl1 : (⟨(numT house).toArray⟩ : ByteArray).size ≤ 6 := by rw [size_len]; exact numT_le house
  have hl2 : (⟨(numT mask).toArray⟩ : ByteArray).size ≤ 6 := by rw [size_len]; exact numT_le mask
  have HN : Hid (∀ W, Below W1.heap.size W1 W → Below w.heap.size w W ∧ W.heap[w.heap.size]? = some (.cells #[.int .i64 house, .string place, .int .i64 mask] 34 (0, 0)) ∧
      Calls Tryd.prog 31 #[.int .i64 house] W (fun e w' => e = .returned (.string ⟨(numT house).toArray⟩) ∧ Below W.heap.size W w') ∧ Calls Tryd.prog 31 #[.int .i64 mask] W (fun e w' => e = .returned (.string ⟨(numT mask).toArray⟩) ∧ Below W.heap.size W w')) := Lib.hid fun W hW => by
    have hb := hb1.trans (hW.mono (by omega))
    exact ⟨hb, (hW.block _ (by omega)).trans hA, impl_numtext house W h0 h1 (ht.below hb (Nat.le_refl _)), impl_numtext mask W m0 m1 (ht.below hb (Nat.le_refl _))⟩
  rw [hfin]
  have hb0 : Below W1.heap.size W1 W1 := Below.refl _ _
  have HW := Lib.hid hW1
  clear hW1 hb1 hz1 hA hfin h0 h1 m0 m1 ht
  generalize (⟨(numT house).toArray⟩ : ByteArray) = A at *
  generalize (⟨(numT mask).toArray⟩ : ByteArray) = B at *
  have g1 : ¬ (9223372036854775807 < A.size + 1) := by omega
  have g2 : ¬ (9223372036854775807 < A.size + 1 + B.size) := by omega
  have g3 : ¬ (9223372036854775807 < A.size + 1 + B.size + 1) := by omega
  have g4 : ¬ (9223372036854775807 < A.size + 1 + B.size + 1 + place.size) := by omega
  have HG := Lib.hid (And.intro g1 (And.intro g2 (And.intro g3 g4)))
  clear hl1 hl2 g1 g2 g3 g4
  go_enter Tryd.func14, Tryd.ntmps14
  go_wp2_with fail
  rw [← HW.out]
  refine wp_region_last (by kernel_rfl) 12 (by kernel_rfl) (by kernel_rfl) (by kernel_rfl)
    (fun u => { tmps := #[.agg #[.int .i64 house, .string place, .int .i64 mask], .pointer (some ⟨w.heap.size, 0, none⟩), .string ⟨#[]⟩, u 0, u 1, u 2, u 3, u 4, u 5, u 6, u 7, u 8, u 9, u 10, u 11], defers := [] })
    (fun _ W => Below W1.heap.size W1 W)
    (fun i v _ => v = ([.pointer (some ⟨w.heap.size, 0, none⟩), .int .i64 house, .string A, .string (A ++ ⟨#[32]⟩), .pointer (some ⟨w.heap.size, 2, none⟩), .int .i64 mask, .string B, .string ((A ++ ⟨#[32]⟩) ++ B), .string (((A ++ ⟨#[32]⟩) ++ B) ++ ⟨#[32]⟩), .pointer (some ⟨w.heap.size, 1, none⟩), .string place, .string ((((A ++ ⟨#[32]⟩) ++ B) ++ ⟨#[32]⟩) ++ place)] : List Value).getD i undef)
    (fun w w' => True) (fun _ => undef) hb0.drew
    (fun _ _ _ _ _ h _ => h) ?_ ?_
  · intro i hi u W kk hkk hC hd
    obtain ⟨_, k2, k3, k4⟩ := HN.out _ hC
    obtain ⟨t1, t2, t3, _⟩ := three_facts k2
    match i, hi with
    | 0, _ =>
      refine wpOp_step rfl (fun K hK => ?_)
      clear hd k3 k4
      go_simp
      exact hK _ _ ⟨_, rfl, rfl, trivial, hC⟩
    | 1, _ =>
      have e0 : u 0 = .pointer (some ⟨w.heap.size, 0, none⟩) := hd 0 (dep_of (by kernel_rfl))
      refine wpOp_step rfl (fun K hK => ?_)
      clear hd k3 k4
      go_simp
      exact hK _ _ ⟨_, by simp [upd, e0], rfl, trivial, hC⟩
    | 2, _ =>
      have e1 : u 1 = .int .i64 house := hd 1 (dep_of (by kernel_rfl))
      refine wpOp_step rfl (fun K hK => ?_)
      clear hd k4 t1 t2 t3
      go_simp
      refine k3.mono ?_
      rintro e w2 ⟨rfl, hb2⟩
      exact hK _ _ ⟨_, by simp [upd, e1], rfl, trivial, hC.trans (hb2.mono hC.size)⟩
    | 3, _ =>
      have e2 : u 2 = .string A := hd 2 (dep_of (by kernel_rfl))
      have g := HG.out.1
      refine wpOp_step rfl (fun K hK => ?_)
      clear hd k3 k4 t1 t2 t3
      go_simp
      exact hK _ _ ⟨_, by simp [upd, e2], rfl, trivial, hC⟩
    | 4, _ =>
      refine wpOp_step rfl (fun K hK => ?_)
      clear hd k3 k4
      go_simp
      exact hK _ _ ⟨_, rfl, rfl, trivial, hC⟩
    | 5, _ =>
      have e4 : u 4 = .pointer (some ⟨w.heap.size, 2, none⟩) := hd 4 (dep_of (by kernel_rfl))
      refine wpOp_step rfl (fun K hK => ?_)
      clear hd k3 k4
      go_simp
      exact hK _ _ ⟨_, by simp [upd, e4], rfl, trivial, hC⟩
    | 6, _ =>
      have e5 : u 5 = .int .i64 mask := hd 5 (dep_of (by kernel_rfl))
      refine wpOp_step rfl (fun K hK => ?_)
      clear hd k3 t1 t2 t3
      go_simp
      refine k4.mono ?_
      rintro e w2 ⟨rfl, hb2⟩
      exact hK _ _ ⟨_, by simp [upd, e5], rfl, trivial, hC.trans (hb2.mono hC.size)⟩
    | 7, _ =>
      have e3 : u 3 = .string (A ++ ⟨#[32]⟩) := hd 3 (dep_of (by kernel_rfl))
      have e6 : u 6 = .string B := hd 6 (dep_of (by kernel_rfl))
      have g := HG.out.2.1
      refine wpOp_step rfl (fun K hK => ?_)
      clear hd k3 k4 t1 t2 t3
      go_simp
      exact hK _ _ ⟨_, by simp [upd, e3, e6], rfl, trivial, hC⟩
    | 8, _ =>
      have e7 : u 7 = .string ((A ++ ⟨#[32]⟩) ++ B) := hd 7 (dep_of (by kernel_rfl))
      have g := HG.out.2.2.1
      refine wpOp_step rfl (fun K hK => ?_)
      clear hd k3 k4 t1 t2 t3
      go_simp
      exact hK _ _ ⟨_, by simp [upd, e7], rfl, trivial, hC⟩
    | 9, _ =>
      refine wpOp_step rfl (fun K hK => ?_)
      clear hd k3 k4
      go_simp
      exact hK _ _ ⟨_, rfl, rfl, trivial, hC⟩
    | 10, _ =>
      have e9 : u 9 = .pointer (some ⟨w.heap.size, 1, none⟩) := hd 9 (dep_of (by kernel_rfl))
      refine wpOp_step rfl (fun K hK => ?_)
      clear hd k3 k4
      go_simp
      exact hK _ _ ⟨_, by simp [upd, e9], rfl, trivial, hC⟩
    | 11, _ =>
      have e8 : u 8 = .string (((A ++ ⟨#[32]⟩) ++ B) ++ ⟨#[32]⟩) := hd 8 (dep_of (by kernel_rfl))
      have e10 : u 10 = .string place := hd 10 (dep_of (by kernel_rfl))
      have g := HG.out.2.2.2
      refine wpOp_step rfl (fun K hK => ?_)
      clear hd k3 k4 t1 t2 t3
      go_simp
      exact hK _ _ ⟨_, by simp [upd, e8, e10], rfl, trivial, hC⟩
  · intro u W kk hkk hC hd
    have e11 : u 11 = .string ((((A ++ ⟨#[32]⟩) ++ B) ++ ⟨#[32]⟩) ++ place) := hd 11 (by decide)
    have HB := Lib.hid (HN.out _ hC).1
    refine wpOp_step rfl (fun K hK => ?_)
    clear hd
    go_simp
    refine hK _ _ ?_
    clear hK K hC e11
    go_wp2
    go_ret
    exact ⟨rfl, HB.out⟩
end Go.Proofs.YtiepobifbkleaaaDoor

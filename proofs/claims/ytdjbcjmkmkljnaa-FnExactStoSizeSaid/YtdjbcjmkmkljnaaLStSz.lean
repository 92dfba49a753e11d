/- The law on an entry's size, exact. -/
import Derived.Test.YtdjbcjmkmkljnaaStN
namespace Go.Proofs.Ytdjbcjmkmkljnaa
open Go.RowKit Go.ChangeShapes Go.WideShapes Go.Deep Go.Maps

set_option maxRecDepth 100000 in
theorem open_entry {H : Type} {enc : TypeId × Value → H} {W : World} {r : Reach} {b0 base : Nat} {held : Bool} {v : Value} {d : DataW H} {p : List MemPlace} (hv : Value.okWide Try.prog W r b0 25 v) (h : DataW.Trod enc Try.prog W base (fun _ => true) held 25 v d p) :
    ∃ e : En, v = enV e ∧ EnOk maxLen e := by
  obtain ⟨cs, rfl, hsz⟩ := okWide_struct Try.underlying25 hv
  obtain ⟨fuel, hf⟩ := h
  have hl : cs.toList.length = 9 := by rw [Array.length_toList]; exact hsz.trans cellsEnL
  obtain ⟨e, he, hE⟩ := open_entryC hl hf
  refine ⟨e, ?_, hE⟩
  have : cs = (enL e).toArray := by rw [← he]
  rw [this]; rfl

set_option maxRecDepth 100000 in
set_option maxHeartbeats 3200000 in
theorem law_stosize (e : En) (w : World) (hN : EnOk maxLen e) :
    Calls Try.prog 3 #[enV e] w fun e w' => e = .returned (.bool true) ∧ Below w.heap.size w w' := by
  obtain ⟨wA, hwA⟩ : ∃ wA, wA = w.alloc (.cells (enC e) 25) := ⟨_, rfl⟩
  have hsA : wA.heap.size = w.heap.size + 1 := by rw [hwA]; simp
  have hbA : Below w.heap.size w wA := by rw [hwA]; exact (Below.refl _ _).alloc (Nat.le_refl _) _
  have hX0 : wA.heap[w.heap.size]? = some (.cells (enC e) 25 (0, 0)) := by rw [hwA]; exact heap_alloc_new w _
  have HX : Hid (∀ W, Below wA.heap.size wA W → Below w.heap.size w W ∧ W.heap[w.heap.size]? = some (.cells (enC e) 25 (0, 0))) := Lib.hid fun W hW =>
    ⟨hbA.trans (hW.mono (by omega)), (hW.block w.heap.size (by omega)).trans hX0⟩
  have hS := sz_entry e 1048576 (by omega) (by omega) hN
  have hT := to_entry e
  have hP := spec_size e
  have hI := impl_size e
  obtain ⟨n, hn⟩ : ∃ n : Int, n = ((sizeE e : Nat) : Int) := ⟨_, rfl⟩
  rw [← hn] at hP hI
  unfold enV at hS hT hP hI ⊢
  unfold enC at hwA hX0 HX
  obtain ⟨t0, t1, t2, t3, t4, t5, t6, t7, t8⟩ := nine_facts hX0
  rw [hwA] at t0 t1 t2 t3 t4 t5 t6 t7 t8
  have HS := Lib.hid hS
  have HT := Lib.hid hT
  have HP := Lib.hid hP
  have HI := Lib.hid hI
  have HW := Lib.hid hwA
  clear hwA hbA hX0 hS hT hP hI hN hn
  go_enter Try.func3, Try.ntmps3
  go_wp2_with fail
  rw [← HW.out]
  refine (HS.out wA).mono ?_
  rintro e' w1 ⟨⟨r, rfl, hr⟩, hb1⟩
  clear t0 t1 t2 t3 t4 t5 t6 t7 t8
  rcases hr with hr | ⟨hr, _, hz⟩
  · have HB := Lib.hid (HX.out _ hb1).1
    clear hb1
    go_wp2
    go_ret
    exact ⟨rfl, HB.out⟩
  have i1 : ¬ r < 0 := by omega
  have HZ := Lib.hid hz
  clear hz
  obtain ⟨t0, t1, t2, t3, t4, t5, t6, t7, t8⟩ := nine_facts (HX.out _ hb1).2
  go_wp2_with fail
  refine (HT.out w1).mono ?_
  rintro e' w2 ⟨rfl, hb2⟩
  have hB2 := hb1.trans (hb2.mono hb1.size)
  clear hb1 hb2 t0 t1 t2 t3 t4 t5 t6 t7 t8
  go_wp2_with fail
  refine (HP.out w2 HZ.out).mono ?_
  rintro e' w3 ⟨rfl, hb3⟩
  have hB3 := hB2.trans (hb3.mono hB2.size)
  clear hB2 hb3
  obtain ⟨t0, t1, t2, t3, t4, t5, t6, t7, t8⟩ := nine_facts (HX.out _ hB3).2
  go_wp2_with fail
  refine (HT.out w3).mono ?_
  rintro e' w4 ⟨rfl, hb4⟩
  have hB4 := hB3.trans (hb4.mono hB3.size)
  clear hB3 hb4 t0 t1 t2 t3 t4 t5 t6 t7 t8
  go_wp2_with fail
  refine (HI.out w4 HZ.out).mono ?_
  rintro e' w5 ⟨rfl, hb5⟩
  have hB5 := (HX.out _ (hB4.trans (hb5.mono hB4.size))).1
  clear hB4 hb5
  go_wp2
  go_ret
  exact ⟨rfl, hB5⟩
namespace Lw
theorem fnExactStoSize (w : World) (e : En) (hN : EnOk maxLen e) :
    Calls Try.prog 3 #[enV e] w fun e w' => e = .returned (.bool true) ∧ Below w.heap.size w w' := law_stosize e w hN
end Lw
end Go.Proofs.Ytdjbcjmkmkljnaa

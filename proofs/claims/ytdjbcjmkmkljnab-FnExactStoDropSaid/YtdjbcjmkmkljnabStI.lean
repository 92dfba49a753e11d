/- Walks: storage, by the program: without what is for a place and codings. -/
import Derived.Test.YtdjbcjmkmkljnabStF
import Derived.Test.YtdjbcjmkmkljnabStH
namespace Go.Proofs.Ytdjbcjmkmkljnab
open Go.RowKit Go.Maps

theorem Chn.lower {w : World} {c mb B N B' : Nat} {L : List (Nat × En)} (h : Chn w c mb B N L) (hb : B' ≤ B) : Chn w c mb B' N L :=
  ⟨h.head, h.links, h.nodup, fun x hx => ⟨Nat.le_trans hb (h.far x hx).1, (h.far x hx).2⟩, ⟨Nat.le_trans hb h.low.1, Nat.le_trans hb h.low.2.1, h.low.2.2⟩, h.map, h.ok⟩
theorem Chn.grown {w w' : World} {c mb B N : Nat} {L : List (Nat × En)} {row : Option Nat} (h : Chn w c mb B N L) (hg : w.grownBy w' row) (hr : ∀ j, row = some j → ¬ Cs c mb L j) : Chn w' c mb B N L :=
  h.keep (S := fun j => row = some j) (only_of_grown hg fun _ h => h) hr
/-- A chain stays while what is no cells turns, above its map. -/
theorem chn_turned {X Y : World} {c mb B N B0 : Nat} {L : List (Nat × En)} {row : Option Nat} (h : Chn X c mb B N L) (hg : X.grownBy Y row) (hmb : mb < B0) (hr : ∀ r, row = some r → B0 ≤ r ∧ ∃ o : Obj, X.heap[r]? = some o ∧ o.isCells = false) : Chn Y c mb B N L :=
  h.grown hg fun j hj hc => by
    obtain ⟨h1, o, ho, hno⟩ := hr j hj
    rcases hc with rfl | rfl | hc
    · rw [h.head] at ho; cases ho; cases hno
    · omega
    · obtain ⟨x, hx, rfl⟩ := List.mem_map.1 hc
      obtain ⟨dom, ah, nx, tw, hM, _, hd⟩ := h.links
      rw [hM _ _ (hd x hx)] at ho; cases ho; cases hno
theorem cs_less {c mb j b : Nat} {e : En} {A R : List (Nat × En)} (h : Cs c mb (A ++ R) j) : Cs c mb (A ++ (b, e) :: R) j := by
  rcases h with h | h | h
  · exact .inl h
  · exact .inr (.inl h)
  · refine .inr (.inr ?_)
    simp only [List.map_append, List.map_cons, List.mem_append, List.mem_cons] at h ⊢
    rcases h with h | h <;> simp [h]
theorem entries_any (v : Value) (L : List En) (w : World) (hR : ERow w v L) (hE : EnsOk 1048576 L) (hn : L.length ≤ 2000000) :
    Calls Try.prog 20 #[.agg #[v]] w fun e' w' => ∃ c mb M, e' = .returned (.pointer (some ⟨c, 0, none⟩)) ∧ Chn w' c mb w.heap.size L.length M ∧ M.map (·.2) = L ∧ Below w.heap.size w w' :=
  (entries_of v L w hR hE hn).mono fun _ _ ⟨c, mb, M, h1, h2, h3, h4⟩ => ⟨c, mb, M, h1, h2.lower (Nat.le_succ _), h3, ((Below.refl _ _).alloc (Nat.le_refl _) _).trans (h4.mono (Nat.le_succ _))⟩
theorem outE_sub (L : List En) (p : ByteArray) (m : Int) : ∀ e ∈ outE L p m, e ∈ L := fun _ he => List.mem_of_mem_eraseP he
theorem outE_len (L : List En) (p : ByteArray) (m : Int) : (outE L p m).length ≤ L.length := List.length_eraseP_le
theorem own_lowB {w : World} {B B' : Nat} {e : TypeId} {size : Nat} {v : Value} {n : Nat} {xs : List Value} (h : w.ownsRow B e size v n xs) (hb : B' ≤ B) : w.ownsRow B' e size v n xs := by
  obtain ⟨h1, h2⟩ := h
  refine ⟨h1, ?_⟩
  rcases h2 with h2 | ⟨g, cap, cur, r1, r2, r3⟩
  · exact .inl h2
  · exact .inr ⟨g, cap, cur, r1, Nat.le_trans hb r2, r3⟩
/-- A box told a row that the call owns. -/
theorem told_row {w : World} {g B n : Nat} {t e : TypeId} {u v : Value} {size : Nat} {xs : List Value} (hb : Boxed w g t u) (hte : t ≠ e) (ho : w.ownsRow B e size v n xs) : Boxed (w.setCell ⟨g, 0, none⟩ v) g t v ∧ (w.setCell ⟨g, 0, none⟩ v).ownsRow B e size v n xs :=
  ⟨hb.set v, ho.kept (grownBy_setCell' w g v) (.inr (hb.not_row hte ho).symm)⟩
theorem own_slice {w : World} {B n : Nat} {e : TypeId} {v : Value} {size : Nat} {xs : List Value} (ho : w.ownsRow B e size v n xs) : ∃ a c, v = .slice a n c := by
  rcases ho.2 with ⟨rfl, h0⟩ | ⟨g, cap, _, rfl, _⟩
  · exact ⟨none, 0, by rw [h0]⟩
  · exact ⟨_, _, rfl⟩

/-- Storage handed back: a row of the call's own. -/
def SRet (w : World) (L : List En) (e' : Ending) (w' : World) : Prop := ∃ v, e' = .returned (.agg #[v]) ∧ w'.ownsRow w.heap.size 43 9 v L.length (ecells L) ∧ Below w.heap.size w w'

set_option maxRecDepth 100000 in
set_option maxHeartbeats 1600000 in
theorem impl_stoout (v : Value) (L : List En) (p : ByteArray) (m : Int) (w : World) (hR : ERow w v L) (hE : EnsOk 1048576 L) (hn : L.length ≤ 2000000) (hp : p.size ≤ maxLen) (hm : (Lit.int .i64 m).wf = true) :
    Calls Try.prog 14 #[.agg #[v], .string p, .int .i64 m] w (SRet w (outE L p m)) := by
  obtain ⟨wA, hwA⟩ : ∃ wA, wA = (w.alloc (.cells #[v] 28)).alloc (.cells #[.slice none 0 0] 28) := ⟨_, rfl⟩
  have hbA : Below w.heap.size w wA := by rw [hwA]; exact ((Below.refl _ _).alloc (Nat.le_refl _) _).alloc (by simp) _
  have hsA : wA.heap.size = w.heap.size + 2 := by rw [hwA]; simp
  have h0 : Boxed wA w.heap.size 28 v := by rw [hwA]; exact (Boxed.new w _ _).alloc _
  have h1 : Boxed wA (w.heap.size + 1) 28 (.slice none 0 0) := by
    rw [hwA]
    have := Boxed.new (w.alloc (.cells #[v] 28)) 28 (.slice none 0 0)
    rwa [World.size_alloc] at this
  have hC := entries_any v L wA (hR.below (Nat.le_refl _) hbA) hE hn
  obtain ⟨a, c0, rfl, -⟩ := hR
  have t0 := h0.cell
  rw [hwA] at t0
  have HW := Lib.hid hwA
  have H1 := Lib.hid h1
  have HbA := Lib.hid hbA
  clear hwA hE h0 h1 hbA
  go_enter Try.func14, Try.ntmps14
  go_wp2_with fail
  rw [← HW.out]
  refine hC.mono ?_
  rintro e w1 ⟨c, mb, M, rfl, hM, hML, hb1⟩
  have hC2 := remove_first c mb _ _ M p m w1 hM hp hm (by unfold maxLen; omega)
  clear hC t0
  go_wp2_with fail
  refine hC2.mono ?_
  rintro e w2 ⟨rfl, hM2, hO2⟩
  have hb2 : Below wA.heap.size wA w2 := hb1.trans (hO2.below (by have := hb1.size; omega) fun j hj => (hM.cs hj).1)
  have hlen : (outL M p m).length ≤ 2000000 := by
    have h1 : (outL M p m).length ≤ M.length := List.length_eraseP_le
    have h2 : M.length = L.length := by rw [← hML, List.length_map]
    omega
  have hC3 := store_of c mb _ _ _ w2 hM2 hlen
  have hOut : (outL M p m).map (·.2) = outE L p m := by rw [outL_map, hML]
  have hl2 : (outL M p m).length = (outE L p m).length := by rw [← hOut, List.length_map]
  rw [hOut, hl2] at hC3
  have HB := Lib.hid hb2
  clear hC2 hM hM2 hML hO2 hb1 hb2 hlen hOut hl2
  go_wp2_with fail
  refine hC3.mono ?_
  rintro e w3 ⟨v', rfl, ho3, hb3⟩
  obtain ⟨a', c', rfl⟩ := own_slice ho3
  have hb3' : Below wA.heap.size wA w3 := HB.out.trans (hb3.mono HB.out.size)
  have h13 := H1.out.kept (grown_of_below hb3' none) (by simp)
  have u1 := h13.cell
  have u2 := h13.frozen
  obtain ⟨k1, k2⟩ := told_row h13 (by decide) ho3
  have k3 := k1.cell
  have HF := Lib.hid (And.intro k3 (And.intro (own_lowB k2 (show w.heap.size ≤ w2.heap.size from by have := HB.out.size; omega)) ((HbA.out.trans (hb3'.mono (by omega))).setCell (p := ⟨w.heap.size + 1, 0, none⟩) (by simp) (.slice a' (outE L p m).length c'))))
  clear hC3 hb3 hb3' h13 k1 k2 k3 ho3
  go_wp2
  obtain ⟨k3, k2, k4⟩ := HF.out
  refine bodyPost_ret (v := .agg #[.slice a' (outE L p m).length c']) (by simp [results, Try.results14, go_sem, k3]) rfl ⟨_, rfl, k2, k4⟩
end Go.Proofs.Ytdjbcjmkmkljnab

/- Walks: the drawing of texts. -/
import Derived.Test.YtbhnjnoblkfckabDoorDraw
namespace Go.Proofs.YtbhnjnoblkfckabDoor
open Go.RowKit

def strsOk (cs : Array Value) (K : Nat) : Bool := cs.toList.all fun v => match v with | .string s => decide (s.size ≤ K) | _ => false
theorem strs_at {cs : Array Value} {K r : Nat} (h : strsOk cs K = true) (hr : r < cs.size) : ∃ s : ByteArray, cs[r]? = some (.string s) ∧ s.size ≤ K := by
  unfold strsOk at h
  rw [List.all_eq_true] at h
  have h2 := h cs[r] (by simp)
  rw [Array.getElem?_eq_getElem hr]
  cases hv : cs[r] <;> rw [hv] at h2 <;> simp at h2
  exact ⟨_, rfl, h2⟩
/-- An element of a literal of texts that was built ahead of a draw. -/
theorem lit_str {w w1 : World} {B g m K : Nat} {cs : Array Value} {T : TypeId} (hd : Drawn (w.alloc (.cells cs T)) w1 B g m) (hg : g < w.heap.size) (hok : strsOk cs K = true) (r : Nat) (hr : r < cs.size) :
    ∃ s : ByteArray, w1.cell? ⟨w.heap.size, r, none⟩ = some (.string s) ∧ s.size ≤ K := by
  obtain ⟨s, h1, h2⟩ := strs_at hok hr
  refine ⟨s, ?_, h2⟩
  have hb : w1.heap[w.heap.size]? = some (.cells cs T (0, 0)) := (hd.2.block w.heap.size (by simp) (by simp; omega)).trans (heap_alloc_new w _)
  rw [cell_of_row w1 w.heap.size r cs T (0, 0) hb, h1]

def DrawnStr (K : Nat) (w : World) (B g m : Nat) (e : Ending) (w' : World) : Prop := ∃ s : ByteArray, e = .returned (.string s) ∧ s.size ≤ K ∧ Drawn w w' B g m

set_option maxHeartbeats 400000 in
theorem open_any (a : Option Addr) (len cap : Nat) (zs : List Int) (w : World) (h : IsRow .u8 w a len cap zs) :
    Calls Tryd.prog 12 #[.slice a len cap] w fun e w' => ∃ g, e = .returned (.pointer (some ⟨g, 0, none⟩)) ∧ RdAt w' w.heap.size g 0 ∧ Below w.heap.size w w' := by
  have key : ∀ n, n ≤ len → n ≤ 2000 → RdAt (w.alloc (.cells #[.slice a n cap, .int .i64 0] 47)) w.heap.size w.heap.size 0 := fun n hn hn2 => by
    refine ⟨Nat.le_refl _, a, n, cap, 0, heap_alloc_new w _, Nat.le_refl _, ?_⟩
    rcases h with ⟨rfl, rfl, rfl, rfl⟩ | ⟨x, rfl, hl, hm, hz, hcell, hwz⟩
    · exact .inl (by omega)
    · rcases Nat.eq_zero_or_pos n with h0 | h0
      · exact .inl h0
      · obtain ⟨b, off, spot⟩ := x
        have hc := hcell 0 (by omega)
        have hspot : spot = none := by simpa [Addr.add] using World.cell?_spot hc
        subst hspot
        have hblt : b < w.heap.size := World.block_lt_of_cell? w _ hc
        refine .inr ⟨b, off, rfl, hblt, hn2, by omega, hm, fun j hj => ?_⟩
        have hj' : j < zs.length := by omega
        have hcj := hcell j hj'
        obtain ⟨u, hu⟩ := u8_of_wf (hwz (zs.getD j 0) (by rw [List.getD_eq_getElem?_getD, List.getElem?_eq_getElem hj']; exact List.getElem_mem hj'))
        refine ⟨u, ?_⟩
        rw [World.cell?_alloc_lt w _ _ hblt]
        rw [hu] at hcj
        have ea : (⟨b, off, none⟩ : Addr).add j = ⟨b, off + j, none⟩ := by
          unfold Addr.add
          split <;> simp_all
        rw [ea] at hcj
        exact hcj
  have hb2 := fun n => (Below.refl w.heap.size w).alloc (Nat.le_refl _) (.cells #[.slice a n cap, .int .i64 0] 47)
  have hlc : len ≤ 2000 ∨ (2000 ≤ len ∧ len ≤ cap ∧ cap ≤ 9223372036854775807 ∧ ∃ b o, a = some ⟨b, o, none⟩) := by
    rcases h with ⟨rfl, rfl, rfl, rfl⟩ | ⟨x, rfl, hl, hm, hz, hcell, hwz⟩
    · exact .inl (by omega)
    · rcases Nat.lt_or_ge 2000 len with h0 | h0
      · obtain ⟨b, off, spot⟩ := x
        have hc := hcell 0 (by omega)
        have hspot : spot = none := by simpa [Addr.add] using World.cell?_spot hc
        subst hspot
        exact .inr ⟨by omega, hl, hm, b, off, rfl⟩
      · exact .inl h0
  by_cases hlen : 2000 < len
  · obtain ⟨_, h1, h2, b, o, rfl⟩ := hlc.resolve_left (by omega)
    clear h hlc
    go_enter Tryd.func12, Tryd.ntmps12
    go_wp2
    go_ret
    exact ⟨_, rfl, key 2000 (by omega) (by omega), hb2 _⟩
  · clear h hlc
    go_enter Tryd.func12, Tryd.ntmps12
    go_wp2
    go_ret
    exact ⟨_, rfl, key len (by omega) (by omega), hb2 _⟩

def IntsL (lo hi : Int) : List Value → Prop
  | [] => True
  | v :: l => (∃ x : Int, v = .int .i64 x ∧ lo ≤ x ∧ x ≤ hi) ∧ IntsL lo hi l
theorem ints_at {lo hi : Int} : ∀ {l : List Value} {r : Nat}, IntsL lo hi l → r < l.length → ∃ x : Int, l[r]? = some (.int .i64 x) ∧ lo ≤ x ∧ x ≤ hi
  | [], r, _, h => by simp at h
  | v :: l, 0, h, _ => by obtain ⟨⟨x, rfl, h1, h2⟩, _⟩ := h; exact ⟨x, rfl, h1, h2⟩
  | v :: l, r + 1, h, hr => by simpa using ints_at (l := l) (r := r) h.2 (by simp at hr; omega)
/-- An element of a literal of numbers that was built ahead of a draw. -/
theorem lit_int {w w1 : World} {B g m : Nat} {lo hi : Int} {cs : Array Value} {T : TypeId} (hd : Drawn (w.alloc (.cells cs T)) w1 B g m) (hg : g < w.heap.size) (hok : IntsL lo hi cs.toList) (r : Nat) (hr : r < cs.size) :
    ∃ x : Int, w1.cell? ⟨w.heap.size, r, none⟩ = some (.int .i64 x) ∧ lo ≤ x ∧ x ≤ hi := by
  obtain ⟨x, h1, h2⟩ := ints_at hok (r := r) (by simpa using hr)
  refine ⟨x, ?_, h2⟩
  have hb : w1.heap[w.heap.size]? = some (.cells cs T (0, 0)) := (hd.2.block w.heap.size (by simp) (by simp; omega)).trans (heap_alloc_new w _)
  rw [cell_of_row w1 w.heap.size r cs T (0, 0) hb, ← Array.getElem?_toList, h1]

theorem bytes_app (a b : ByteArray) : (a ++ b).size = a.size + b.size := by simp
theorem one_size (c : UInt8) : (ByteArray.mk #[c]).size = 1 := rfl
theorem ext_size (s : ByteArray) (a b : Nat) : (s.extract a b).size = min b s.size - a := by simp

set_option maxRecDepth 100000 in
set_option maxHeartbeats 800000 in
theorem bent_any (g B m : Nat) (s : ByteArray) (w : World) (hm : m ≤ 900000) (hs : s.size ≤ 900000) (h : RdAt w B g m) :
    Calls Tryd.prog 33 #[.pointer (some ⟨g, 0, none⟩), .string s] w (DrawnStr (s.size + 1) w B g (m + 4)) := by
  have hg := h.lt
  go_enter Tryd.func33, Tryd.ntmps33
  go_wp2_with fail
  refine (pick_any g _ B m _ (by omega) (by omega) h).mono ?_
  rintro e w1 ⟨k, rfl, hk, hd1⟩
  have hk1 : (k : Int) < (s.size : Int) + 1 := by omega
  clear hk
  go_wp2_with fail
  refine (pick_any g _ B (m + 1) _ (by omega) (by omega) hd1.1).mono ?_
  rintro e w2 ⟨r2, rfl, hr2, hd2⟩
  have hr2' : (r2 : Int) < 256 := by omega
  have hd2' := hd1.trans hd2
  clear hr2
  go_wp2_with fail
  refine (pick_any g _ B (m + 2) _ (by omega) (by omega) (hd2.1.alloc _)).mono ?_
  rintro e w3 ⟨r3, rfl, hr3, hd3⟩
  have hr3' : (r3 : Int) < 11 := by omega
  clear hr3
  obtain ⟨x, hx, hx0, hx1⟩ := lit_int (lo := 0) (hi := 255) hd3 hd2.1.lt (by repeat (first | exact trivial | refine ⟨⟨_, rfl, by omega, by omega⟩, ?_⟩)) r3 (by simp; omega)
  have hd3' := hd2'.trans hd3.of_alloc
  have hcv := fun W => run_conv1 (P := Tryd.prog) 22 9 5 5 Tryd.underlying22 Tryd.underlying5 Tryd.underlying9 W x hx0 (by omega)
  generalize hct : UInt8.ofNat x.toNat = ct at hcv
  clear hct
  go_wp2_with fail
  refine (pick_any g _ B (m + 3) _ (by omega) (by omega) (hd3.1.alloc _)).mono ?_
  rintro e w4 ⟨r4, rfl, hr4, hd4⟩
  have hr4' : (r4 : Int) < 3 := by omega
  have hd4' := hd3'.trans hd4.of_alloc
  clear hr4 hcv hx hd1 hd2 hd3 hd4 hd2' hd3'
  have hr5 : r4 = 0 ∨ r4 = 1 ∨ r4 = 2 := by omega
  have hz1 : (s.extract 0 k).size ≤ 900000 := by rw [ext_size]; omega
  have hz2 : (s.extract (k + 1) s.size).size ≤ 900000 := by rw [ext_size]; omega
  have hz3 : (s.extract k s.size).size ≤ 900000 := by rw [ext_size]; omega
  by_cases hlt : k < s.size
  · rcases hr5 with rfl | rfl | rfl
    · go_wp2_with fail
      go_quiet (fail)
      all_goals go_wp2
      all_goals go_ret
      all_goals exact ⟨_, rfl, by simp only [bytes_app, ext_size, one_size]; omega, hd4'.drewN _⟩
    · go_wp2_with fail
      go_quiet (fail)
      all_goals go_wp2
      all_goals go_ret
      all_goals exact ⟨_, rfl, by simp only [bytes_app, ext_size]; omega, hd4'.drewN _⟩
    · go_wp2_with fail
      go_quiet (fail)
      all_goals go_wp2
      all_goals go_ret
      all_goals exact ⟨_, rfl, by simp only [bytes_app, ext_size, one_size]; omega, hd4'.drewN _⟩
  · rcases hr5 with rfl | rfl | rfl
    · go_wp2_with fail
      go_quiet (fail)
      all_goals go_wp2
      all_goals go_ret
      all_goals exact ⟨_, rfl, by simp only [bytes_app, ext_size, one_size]; omega, hd4'.drewN _⟩
    · go_wp2_with fail
      go_ret
      exact ⟨_, rfl, by omega, hd4'⟩
    · go_wp2_with fail
      go_ret
      exact ⟨_, rfl, by omega, hd4'⟩
end Go.Proofs.YtbhnjnoblkfckabDoor

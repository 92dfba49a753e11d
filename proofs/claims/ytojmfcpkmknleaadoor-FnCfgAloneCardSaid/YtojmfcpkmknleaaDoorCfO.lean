/- Walks: the drawing of houses, one in so many with something wrong. -/
import Derived.Test.YtojmfcpkmknleaaDoorCfV
import Derived.Test.YtojmfcpkmknleaaDoorNumB
import Derived.Deep.CutBlock
import Derived.Deep.RegionHeld3
namespace Go.Proofs.YtojmfcpkmknleaaDoor
open Go.RowKit

def DrawnOr (w : World) (B g m : Nat) (e : Ending) (w' : World) : Prop :=
  ∃ (hs : List Hs) (v : Value), e = .returned (.agg #[v]) ∧ HRowA g w' v hs ∧ (∀ h ∈ hs, HSm3 h) ∧ hs.length ≤ 5 ∧ Drawn w w' B g m
theorem four_factsC {w' : World} {g : Nat} {x0 x1 x2 x3 : Value} {T : TypeId} (h : w'.heap[g]? = some (.cells #[x0, x1, x2, x3] T (0, 0))) :
    w'.cell? ⟨g, 0, none⟩ = some x0 ∧ w'.cell? ⟨g, 1, none⟩ = some x1 ∧ w'.cell? ⟨g, 2, none⟩ = some x2 ∧ w'.cell? ⟨g, 3, none⟩ = some x3 ∧
    w'.frozen? ⟨g, 0, none⟩ = false ∧ w'.frozen? ⟨g, 1, none⟩ = false ∧ w'.frozen? ⟨g, 2, none⟩ = false ∧ w'.frozen? ⟨g, 3, none⟩ = false := by
  simp [World.cell?, World.frozen?, h]
/-- The cells of a house among the houses. -/
theorem CIn.cells {w0 W : World} {B g m b rb cap k : Nat} {its : List (Value × Hs)} {p : Value × Hs} (h : CIn w0 W B g m b its (.slice (some ⟨rb, 0, none⟩) its.length cap)) (hp : its[k]? = some p) :
    W.cell? ⟨rb, k * 4, none⟩ = some p.1 ∧ W.cell? ⟨rb, k * 4 + 1, none⟩ = some (.int .i64 p.2.key) ∧ W.cell? ⟨rb, k * 4 + 2, none⟩ = some (.int .i64 p.2.maxN) ∧ W.cell? ⟨rb, k * 4 + 3, none⟩ = some (.int .i64 p.2.maxB) := by
  have hk := (List.getElem?_eq_some_iff.1 hp).1
  rcases h.own.2 with ⟨hx, _⟩ | ⟨c2, cap2, cur, hv, hB, hh, h1, h2, h3, h4⟩
  · cases hx
  obtain ⟨rfl, rfl⟩ : rb = c2 ∧ cap = cap2 := by simpa using hv
  have hat : ∀ i, i < 4 → W.cell? ⟨rb, k * 4 + i, none⟩ = (icell p)[i]? := fun i hi => by
    rw [cell_of_row W rb _ cur _ (0, 0) hh, ← icells_at i hp hi, ← h4, List.getElem?_take, if_pos (by omega), Array.getElem?_toList]
  exact ⟨hat 0 (by omega), hat 1 (by omega), hat 2 (by omega), hat 3 (by omega)⟩
theorem numT_lenC (n : Int) : (numT n).length ≤ 6 := by
  unfold numT
  split
  · rename_i h; exact dec_len_le 5 _ (by omega)
  · simp
theorem add_noneD (b j : Nat) : (⟨b, 0, none⟩ : Addr).add j = ⟨b, j, none⟩ := by unfold Addr.add; split <;> simp_all
theorem Tryd.infoStrD : (Tryd.prog.info? 9).map (fun i => (i.zero, i.size, i.bytes)) = some (some (.string ⟨#[]⟩), 1, 16) := by kernel_rfl
theorem own_zeroD {W : World} {B c : Nat} {T : TypeId} (h : W.heap[c]? = some (.cells #[] T (0, 0))) (hB : B ≤ c) : W.ownsRow B T 1 (.slice (some ⟨c, 0, none⟩) 0 0) 0 [] :=
  ⟨rfl, .inr ⟨c, 0, #[], rfl, hB, h, Nat.le_refl _, by decide, rfl, rfl⟩⟩
theorem nown_of_own {W : World} {B g : Nat} {v : Value} {ns : List ByteArray} (h : W.ownsRow B 9 1 v ns.length (ns.map Value.string)) (hg : g < B) (hn : 0 < ns.length) : NOwn g W v ns := by
  rcases h.2 with ⟨_, h0⟩ | ⟨c, cap, cur, rfl, hB, hh, h1, h2, h3, h4⟩
  · omega
  · refine ⟨c, cap, cur, rfl, h1, h2, by omega, hh, fun j s hj => ?_⟩
    have hl := (List.getElem?_eq_some_iff.1 hj).1
    have e : (cur.toList.take (ns.length * 1))[j]? = some (Value.string s) := by rw [h4, List.getElem?_map, hj]; rfl
    rw [List.getElem?_take, if_pos (by omega), Array.getElem?_toList] at e
    exact e
def LeF (B0 j : Nat) (w w' : World) : Prop :=
  if j = 3 then ∃ r, B0 ≤ r ∧ w.heap[r]? = some (.cells #[] 9 (0, 0)) ∧ w.grownBy w' (some r) else if j = 12 then ∃ r, B0 ≤ r ∧ w.grownBy w' (some r) else w.grownBy w' none
theorem leF_none {B0 j : Nat} {w w' : World} (h3 : j ≠ 3) (h12 : j ≠ 12) (h : LeF B0 j w w') : w.grownBy w' none := by
  unfold LeF at h; rw [if_neg h3, if_neg h12] at h; exact h
theorem leF_mk {B0 j : Nat} {w w' : World} (h3 : j ≠ 3) (h12 : j ≠ 12) (h : w.grownBy w' none) : LeF B0 j w w' := by
  unfold LeF; rw [if_neg h3, if_neg h12]; exact h
theorem block_none {w w' : World} {c : Nat} {o : Obj} (h : w.heap[c]? = some o) (hg : w.grownBy w' none) : w'.heap[c]? = some o :=
  (hg.block c (Array.getElem?_eq_some_iff.1 h).1 (fun e => by cases e)).trans h
theorem own_none {w w' : World} {B n size : Nat} {e : TypeId} {v : Value} {xs : List Value} (h : w.ownsRow B e size v n xs) (hg : w.grownBy w' none) : w'.ownsRow B e size v n xs := by
  refine ⟨h.1, ?_⟩
  rcases h.2 with h | ⟨c, cap, cur, hv, hB, hh, rest⟩
  · exact .inl h
  · exact .inr ⟨c, cap, cur, hv, hB, block_none hh hg, rest⟩
theorem below_fresh {B : Nat} {w W W' : World} {r : Nat} (h : Below B w W) (hg : W.grownBy W' (some r)) (hr : B ≤ r) (hB : B ≤ W.heap.size) : Below B w W' :=
  ⟨hg.os.trans h.os, hg.tape.trans h.tape, hg.output.trans h.output, Nat.le_trans h.size hg.size, fun k hk => (hg.block k (by omega) (fun e => by injection e; omega)).trans (h.block k hk)⟩
/-- What the operations of the region that writes a house's names leave. -/
def RN (B0 n : Nat) (xs : List Value) (x0 : ByteArray) (E : Nat → Value) (i : Nat) (L : Nat → Prop) (v : Value) (w : World) : Prop :=
  if i = 0 then ∃ c, v = .slice (some ⟨c, 0, none⟩) 0 0 ∧ B0 ≤ c ∧ (¬ L 3 → w.heap[c]? = some (.cells #[] 9 (0, 0)))
  else if i = 3 then (¬ L 12 → w.ownsRow B0 9 1 v n xs)
  else if i = 11 then ∃ c, v = .slice (some ⟨c, 0, none⟩) 1 1 ∧ B0 ≤ c ∧ (¬ L 12 → w.heap[c]? = some (.cells #[.string x0] 9 (0, 0)))
  else if i = 12 then w.ownsRow B0 9 1 v (n + 1) (xs ++ [.string x0])
  else v = E i
theorem rn_eq {B0 n : Nat} {xs : List Value} {x0 : ByteArray} {E : Nat → Value} {i : Nat} {L : Nat → Prop} {v : Value} {w : World} (h0 : i ≠ 0) (h3 : i ≠ 3) (h11 : i ≠ 11) (h12 : i ≠ 12) : RN B0 n xs x0 E i L v w ↔ v = E i := by
  unfold RN; rw [if_neg h0, if_neg h3, if_neg h11, if_neg h12]
theorem rn_0 {B0 n : Nat} {xs : List Value} {x0 : ByteArray} {E : Nat → Value} {L : Nat → Prop} {v : Value} {w : World} : RN B0 n xs x0 E 0 L v w ↔ ∃ c, v = .slice (some ⟨c, 0, none⟩) 0 0 ∧ B0 ≤ c ∧ (¬ L 3 → w.heap[c]? = some (.cells #[] 9 (0, 0))) := by
  unfold RN; rw [if_pos rfl]
theorem rn_3 {B0 n : Nat} {xs : List Value} {x0 : ByteArray} {E : Nat → Value} {L : Nat → Prop} {v : Value} {w : World} : RN B0 n xs x0 E 3 L v w ↔ (¬ L 12 → w.ownsRow B0 9 1 v n xs) := by
  unfold RN; rw [if_neg (by decide), if_pos rfl]
theorem rn_11 {B0 n : Nat} {xs : List Value} {x0 : ByteArray} {E : Nat → Value} {L : Nat → Prop} {v : Value} {w : World} : RN B0 n xs x0 E 11 L v w ↔ ∃ c, v = .slice (some ⟨c, 0, none⟩) 1 1 ∧ B0 ≤ c ∧ (¬ L 12 → w.heap[c]? = some (.cells #[.string x0] 9 (0, 0))) := by
  unfold RN; rw [if_neg (by decide), if_neg (by decide), if_pos rfl]
theorem rn_12 {B0 n : Nat} {xs : List Value} {x0 : ByteArray} {E : Nat → Value} {L : Nat → Prop} {v : Value} {w : World} : RN B0 n xs x0 E 12 L v w ↔ w.ownsRow B0 9 1 v (n + 1) (xs ++ [.string x0]) := by
  unfold RN; rw [if_neg (by decide), if_neg (by decide), if_neg (by decide), if_pos rfl]
theorem rn_stay {B0 n : Nat} {xs : List Value} {x0 : ByteArray} {E : Nat → Value} {i j : Nat} {L : Nat → Prop} {v : Value} {w w' : World} (hij : i ≠ j) (hLi : L i) (hLj : ¬ L j) (h12 : L 12 → L 3) (hj : j = 12 → L 3)
    (hR : RN B0 n xs x0 E i L v w) (hle : LeF B0 j w w') : RN B0 n xs x0 E i (fun a => a = j ∨ L a) v w' := by
  by_cases i0 : i = 0
  · subst i0
    rw [rn_0] at hR ⊢
    obtain ⟨c, h1, h2, h3⟩ := hR
    refine ⟨c, h1, h2, fun hn => ?_⟩
    have j3 : j ≠ 3 := fun e => hn (.inl e.symm)
    have l3 : ¬ L 3 := fun e => hn (.inr e)
    exact block_none (h3 l3) (leF_none j3 (fun e => l3 (hj e)) hle)
  by_cases i3 : i = 3
  · subst i3
    rw [rn_3] at hR ⊢
    intro hn
    exact own_none (hR fun e => hn (.inr e)) (leF_none (Ne.symm hij) (fun e => hn (.inl e.symm)) hle)
  by_cases i11 : i = 11
  · subst i11
    rw [rn_11] at hR ⊢
    obtain ⟨c, h1, h2, h3⟩ := hR
    refine ⟨c, h1, h2, fun hn => ?_⟩
    have h4 := h3 fun e => hn (.inr e)
    by_cases j3 : j = 3
    · subst j3
      unfold LeF at hle
      rw [if_pos rfl] at hle
      obtain ⟨r, hr, hc, hg⟩ := hle
      exact (hg.block c (Array.getElem?_eq_some_iff.1 h4).1 (fun e => by injection e with e; subst e; rw [hc] at h4; cases h4)).trans h4
    · exact block_none h4 (leF_none j3 (fun e => hn (.inl e.symm)) hle)
  by_cases i12 : i = 12
  · subst i12
    rw [rn_12] at hR ⊢
    exact own_none hR (leF_none (fun e => hLj (by rw [e]; exact h12 hLi)) (Ne.symm hij) hle)
  rw [rn_eq i0 i3 i11 i12] at hR ⊢
  exact hR
/-- What stands of the houses' box and of the variable while the region runs. -/
def CRowV (N B0 : Nat) (w0 : World) (B g m b : Nat) (its : List (Value × Hs)) (v : Value) (c : Nat) (u : Value) (h : Hs) : (Nat → Prop) → Nat → World → Prop := fun L k W =>
  CRowC N B0 w0 B g m b its v L k W ∧ W.heap[c]? = some (.cells #[u, .int .i64 h.key, .int .i64 h.maxN, .int .i64 h.maxB] 33 (0, 0)) ∧ NOwn g W u h.names
theorem CRowV.keep {N : Nat} {w0 W W' : World} {B0 B g m b k i d c : Nat} {its : List (Value × Hs)} {v u : Value} {h : Hs} {L : Nat → Prop} (hC : CRowV N B0 w0 B g m b its v c u h L k W) (hc : g ≠ c) (hd : Drawn W W' B g (m + k + d)) (hd1 : d ≤ 1) : CRowV N B0 w0 B g m b its v c u h (fun j => j = i ∨ L j) (k + 1) W' :=
  ⟨hC.1.keep hd hd1, block_keep (Ne.symm hc) hC.2.1 hd.2, hC.2.2.keep hd.2⟩
theorem CRowV.same {N : Nat} {w0 W : World} {B0 B g m b k i c : Nat} {its : List (Value × Hs)} {v u : Value} {h : Hs} {L : Nat → Prop} (hC : CRowV N B0 w0 B g m b its v c u h L k W) : CRowV N B0 w0 B g m b its v c u h (fun j => j = i ∨ L j) (k + 1) W :=
  ⟨hC.1.same, hC.2⟩
theorem CRowV.alloc {N : Nat} {w0 W : World} {B0 B g m b k i c : Nat} {its : List (Value × Hs)} {v u : Value} {h : Hs} {L : Nat → Prop} (hC : CRowV N B0 w0 B g m b its v c u h L k W) (hc : g ≠ c) (o : Obj) : CRowV N B0 w0 B g m b its v c u h (fun j => j = i ∨ L j) (k + 1) (W.alloc o) :=
  hC.keep hc (d := 0) ((Drawn.refl hC.1.2.1.1).alloc o) (by omega)
theorem CRowV.app {N : Nat} {w0 W W' : World} {B0 B g m b k c : Nat} {its : List (Value × Hs)} {v u : Value} {h : Hs} {L : Nat → Prop} (hC : CRowV N B0 w0 B g m b its v c u h L k W) (hL : ¬ L N) (hok : ∀ p ∈ its, HSm p.2) (hne : v.ownBlock ≠ some c) (hg : W.grownBy W' v.ownBlock) :
    CRowV N B0 w0 B g m b its v c u h (fun j => j = N ∨ L j) (k + 1) W' := by
  refine ⟨hC.1.app hL hok hg, (hg.block c (Array.getElem?_eq_some_iff.1 hC.2.1).1 (Ne.symm hne)).trans hC.2.1, hC.2.2.grow hg fun r hr => ?_⟩
  obtain ⟨_, cs, hc⟩ := own_type (hC.1.2.2.1 hL) hr
  exact ⟨cs, _, _, hc, by decide⟩
def RAppV (g z c : Nat) (its : List (Value × Hs)) : Value → World → Prop := fun v w => RAppC g z its v w ∧ v.ownBlock ≠ some c
theorem stay_appv {g z c : Nat} {its : List (Value × Hs)} (hg : g < z) : Stay g (RAppV g z c its) := fun v w w' h hh => ⟨stay_appc hg v w w' h.1 hh, h.2⟩
theorem CRowV.fin {N : Nat} {w0 W : World} {B0 B g m b k c : Nat} {its : List (Value × Hs)} {v v' u : Value} {h : Hs} {L : Nat → Prop} (hC : CRowV N B0 w0 B g m b its v c u h L k W) (ha : RAppV g w0.heap.size c its v' W) (hok : ∀ p ∈ its, HSm p.2) (hs : HSm3 h) (hwc : w0.heap.size ≤ c) :
    W.cell? ⟨b, 0, none⟩ = some v ∧ W.frozen? ⟨b, 0, none⟩ = false ∧ ∃ p, VIn w0 (W.setCell ⟨b, 0, none⟩ v') B g (m + k) b (its ++ [p]) v' c u h := by
  obtain ⟨k1, k2, p, k3⟩ := hC.1.fin ha.1 hok
  have hbc : c ≠ b := Ne.symm (other_block hC.1.1 hC.2.1 (by decide))
  exact ⟨k1, k2, p, k3, (heap_setCell_other W ⟨b, 0, none⟩ c _ hbc).trans hC.2.1, hC.2.2.set hC.1.1 (by decide) 0 _, hs, ha.2, hwc⟩
def RSlit (B0 K : Nat) : Value → World → Prop := fun v w => ∃ (c : Nat) (s : ByteArray), v = .slice (some ⟨c, 0, none⟩) 1 1 ∧ B0 ≤ c ∧ w.heap[c]? = some (.cells #[.string s] 9 (0, 0)) ∧ s.size ≤ K
theorem stay2_slit {g B0 K : Nat} {row : Option Nat} (hg : g < B0) (hr : ∀ r, row = some r → r < B0) : StayTwo g row (RSlit B0 K) := fun _ _ _ ⟨c, s, h1, h2, h3, h4⟩ hh => ⟨c, s, h1, h2, fresh_block hg hr h2 h3 hh, h4⟩
theorem stay2_strC (g K : Nat) (row : Option Nat) : StayTwo g row (RStr K) := fun _ _ _ h _ => h
set_option maxRecDepth 100000 in
set_option maxHeartbeats 6400000 in
theorem cfgor_any (g B m : Nat) (q : Int) (w : World) (hm : m ≤ 400000) (hq : q ≤ 1000000) (h : RdAt w B g m) :
    Calls Tryd.prog 25 #[.pointer (some ⟨g, 0, none⟩), .int .i64 q] w (DrawnOr w B g (m + 400)) := by
  have hg := h.lt
  go_enter Tryd.func25, Tryd.ntmps25
  go_wp2_with fail
  obtain ⟨w0, hw0⟩ : ∃ w0, w0 = w.alloc (.cells #[.slice none 0 0] 25) := ⟨_, rfl⟩
  have h0 : RdAt w0 B g m := by rw [hw0]; exact h.alloc _
  have hs0 : w0.heap.size = w.heap.size + 1 := by rw [hw0]; simp
  have hg0 : g < w0.heap.size := by omega
  rw [← hw0]
  refine (cfg_any g B m w0 (by omega) h0).mono ?_
  rintro e w1 ⟨its, v, rfl, ho, hn, hok, hl1, hl3, hd1⟩
  obtain ⟨rb, cap, rfl, hrb, _⟩ := ho.form (by omega)
  obtain ⟨W2, hW2⟩ : ∃ W2, W2 = w1.alloc (.cells #[.slice (some ⟨rb, 0, none⟩) its.length cap] 25) := ⟨_, rfl⟩
  obtain ⟨b, hb⟩ : ∃ b, b = w1.heap.size := ⟨_, rfl⟩
  have hI : CIn w0 W2 B g (m + 100) b its (.slice (some ⟨rb, 0, none⟩) its.length cap) := by
    have hga : w1.grownBy W2 (some g) := by rw [hW2]; exact World.grownBy_alloc _ _ _
    refine ⟨?_, own_drawnC ho hg0 hga, fun p hp => (hn p hp).keep hga, hok, by rw [hW2]; exact hd1.alloc _, hg0, by have := hd1.2.size; omega⟩
    rw [hW2, hb]; exact heap_alloc_new w1 _
  have hfin : ∀ (W : World) (M : Nat) (hs : List Hs) (a : Option Addr) (n c : Nat), HRowA g W (.slice a n c) hs → (∀ h ∈ hs, HSm3 h) → hs.length ≤ 5 → Drawn w0 W B g M → M ≤ m + 400 →
      W.cell? ⟨w.heap.size, 0, none⟩ = some (.slice none 0 0) ∧ W.frozen? ⟨w.heap.size, 0, none⟩ = false ∧ (W.setCell ⟨w.heap.size, 0, none⟩ (.slice a n c)).cell? ⟨w.heap.size, 0, none⟩ = some (.slice a n c) ∧
      Hid (DrawnOr w B g (m + 400) (.returned (.agg #[.slice a n c])) (W.setCell ⟨w.heap.size, 0, none⟩ (.slice a n c))) := fun W M hs a n c hr hk hl hd hM => by
    have r0 : W.heap[w.heap.size]? = some (.cells #[.slice none 0 0] 25 (0, 0)) := by
      refine block_keep (by omega) ?_ hd.2
      rw [hw0]; exact heap_alloc_new w _
    have r1 := heap_setCell_same W w.heap.size 0 _ _ (.slice a n c) r0
    refine ⟨by simp [World.cell?, r0], by simp [World.frozen?, r0], by simp [World.cell?, r1], Lib.hid ⟨hs, _, rfl, hr.set r0 0 _, hk, hl, ?_⟩⟩
    have hW' : Drawn w W B g M := by rw [hw0] at hd; exact hd.of_alloc
    exact (drawn_setC hW' hg (Nat.le_refl _) 0 _).mono hM
  have HF := Lib.hid hfin
  have HW2 := Lib.hid hW2
  have hrd2 := hI.drawn.1
  clear hfin hW2 ho hn hok hd1 hrb
  go_wp2_with fail
  rw [← HW2.out, ← hb]
  refine (odd_anyC g q B (m + 100) W2 (by omega) (by omega) hrd2).mono ?_
  rintro e w3 ⟨od, rfl, hd3⟩
  have hI3 := hI.keep hd3
  have hrd3 := hI3.drawn.1
  clear hd3 hI hrd2 HW2 hb
  go_upto_if 12 with fail
  go_cut [] (fun wx => ∃ (hs : List Hs) (a : Option Addr) (n c : Nat), wx.heap[b]? = some (.cells #[.slice a n c] 25 (0, 0)) ∧ HRowA g wx (.slice a n c) hs ∧ (∀ h ∈ hs, HSm3 h) ∧ hs.length ≤ 5 ∧ Drawn w0 wx B g (m + 300))
  case first =>
    cases od
    · go_wp2_with fail
      go_meet
      exact ⟨_, _, _, _, hI3.box, hI3.row, fun x hx => by obtain ⟨p, hp, rfl⟩ := List.mem_map.1 hx; exact (hI3.ok p hp).up, by rw [List.length_map]; omega, hI3.drawn.mono (by omega)⟩
    · obtain ⟨x0, _⟩ := one_factC hI3.box
      go_wp2_with fail
      refine (pick_any g (its.length : Nat) B (m + 100 + 1) _ (by omega) (by omega) hrd3).mono ?_
      rintro e w4 ⟨k, rfl, hk, hd4⟩
      have hk' : k < its.length := by omega
      have hki : (k : Int) < (its.length : Int) := by omega
      have hI4 := hI3.keep hd4
      clear hI3 hrd3 hd4 x0 hk
      obtain ⟨p, hp⟩ : ∃ p, its[k]? = some p := ⟨_, List.getElem?_eq_getElem hk'⟩
      obtain ⟨c0, c1, c2, c3⟩ := hI4.cells hp
      obtain ⟨x0, _⟩ := one_factC hI4.box
      have hpm := List.mem_of_getElem? hp
      obtain ⟨nb, nc, hu, _⟩ := (hI4.nms p hpm).form
      have hph := hI4.ok p hpm
      have hV : VIn w0 (w4.alloc (.cells #[.slice (some ⟨nb, 0, none⟩) p.2.names.length nc, .int .i64 p.2.key, .int .i64 p.2.maxN, .int .i64 p.2.maxB] 33)) B g (m + 100 + 1 + 1) b its (.slice (some ⟨rb, 0, none⟩) its.length cap) w4.heap.size (.slice (some ⟨nb, 0, none⟩) p.2.names.length nc) p.2 := by
        refine ⟨hI4.alloc _, heap_alloc_new w4 _, ?_, (hI4.ok p hpm).up, fun e => ?_, by have := hI4.drawn.2.size; omega⟩
        · rw [← hu]; exact ((hI4.alloc _).nms p hpm)
        · obtain ⟨_, cs, hc⟩ := own_type hI4.own e
          have := (Array.getElem?_eq_some_iff.1 hc).1; omega
      rw [hu] at c0
      obtain ⟨W5, hW5⟩ : ∃ W5, W5 = w4.alloc (.cells #[.slice (some ⟨nb, 0, none⟩) p.2.names.length nc, .int .i64 p.2.key, .int .i64 p.2.maxN, .int .i64 p.2.maxB] 33) := ⟨_, rfl⟩
      rw [← hW5] at hV
      have hrd5 := hV.cin.drawn.1
      have HW5 := Lib.hid hW5
      clear hI4 hp hpm hu hW5
      go_wp2_with fail
      rw [← HW5.out]
      refine (pick_lit g 7 7 rfl (by decide) B (m + 100 + 1 + 1) _ (by omega) (by decide) hrd5).mono ?_
      rintro e w6 ⟨r, rfl, hr, hr', hd6⟩
      have hV6 := hV.keep hd6
      generalize p.2 = ph at hV6 hph
      have hrd6 := hd6.1
      clear hd6 hV hrd5 HW5 c0 c1 c2 c3 x0
      by_cases e0 : r = 0
      · subst e0
        obtain ⟨y0, p0, z0, HX⟩ := HF.out w6 _ [] none 0 0 ⟨none, 0, rfl, Nat.le_refl _, Nat.zero_le _, fun j x hj => by simp at hj⟩ (by simp) (by simp) hV6.cin.drawn (by omega)
        clear hV6
        go_wp2
        exact bodyPost_ret (v := .agg #[.slice none 0 0]) (by simp [results, Tryd.results25, go_sem, z0]) rfl HX.out
      · have n0 : ((r : Int) == 0) = false := by simp; omega
        go_upto_block 0 with fail
        go_cut [] (fun wx => ∃ (its : List (Value × Hs)) (rb cap : Nat) (u : Value) (h : Hs), VIn w0 wx B g (m + 250) b its (.slice (some ⟨rb, 0, none⟩) its.length cap) w4.heap.size u h ∧ k < its.length ∧ its.length ≤ 5)
        case first =>
          by_cases e1 : r = 1
          · subst e1
            obtain ⟨i0, hi, hz0, hz1, hz2⟩ := info_parts Tryd.infoStrD
            obtain ⟨p0, hp0⟩ : ∃ p0, its[0]? = some p0 := ⟨_, List.getElem?_eq_getElem (by omega)⟩
            obtain ⟨m0, _, _, _⟩ := hV6.cin.cells hp0
            have hp0m := List.mem_of_getElem? hp0
            obtain ⟨nb0, nc0, hu0, _, _, _, hnl0, hnc0⟩ := (hV6.cin.nms p0 hp0m).form
            have hok0 := hV6.cin.ok p0 hp0m
            obtain ⟨x0, hx0⟩ : ∃ x0, p0.2.names[0]? = some x0 := ⟨_, List.getElem?_eq_getElem (by have := hok0.2.1; omega)⟩
            have hxs : x0.size ≤ 40 := hok0.1 x0 (List.mem_of_getElem? hx0)
            have hl0 := hok0.2.1
            obtain ⟨nbx, ncx, hux, hle1, hle2, _, hnl, hncs⟩ := hV6.un.form
            obtain ⟨rfl, rfl⟩ : nb = nbx ∧ nc = ncx := by simpa using hux
            obtain ⟨v0, v1, v2, v3, _⟩ := four_factsC hV6.var
            obtain ⟨bx0, _⟩ := one_factC hV6.cin.box
            rw [hu0] at m0
            have hphl := hph.2
            have hvlt := hV6.lt
            have hblt := hV6.cin.lt
            have hrlt := World.block_lt_of_cell? w6 _ m0
            unfold maxLen at hle2
            have hB : ∀ W, Below w6.heap.size w6 W → W.cell? ⟨b, 0, none⟩ = some (.slice (some ⟨rb, 0, none⟩) its.length cap) ∧ W.cell? ⟨w4.heap.size, 0, none⟩ = some (.slice (some ⟨nb, 0, none⟩) ph.names.length nc) ∧ W.cell? ⟨rb, 0, none⟩ = some (.slice (some ⟨nb0, 0, none⟩) p0.2.names.length nc0) ∧ W.cell? ⟨nb0, 0, none⟩ = some (.string x0) ∧
                (∀ j x, (ph.names.map Value.string)[j]? = some x → W.cell? ((⟨nb, 0, none⟩ : Addr).add j) = some x) := fun W hW => by
              refine ⟨(hW.cell (p := ⟨b, 0, none⟩) hblt).trans bx0, (hW.cell (p := ⟨w4.heap.size, 0, none⟩) hvlt).trans v0, (hW.cell (p := ⟨rb, 0, none⟩) hrlt).trans (by simpa using m0), (hW.cell (p := ⟨nb0, 0, none⟩) hnl0).trans (hnc0 0 x0 hx0), fun j x hj => ?_⟩
              rw [List.getElem?_map] at hj
              obtain ⟨s, hs, rfl⟩ := Option.map_eq_some_iff.1 hj
              rw [add_noneD]
              exact (hW.cell (p := ⟨nb, j, none⟩) hnl).trans (hncs j s hs)
            have HB := Lib.hid hB
            have HV6 := Lib.hid hV6
            have hgl : g < w6.heap.size := hrd6.lt
            clear hB m0 hu0 hnc0 hx0 hok0 hncs hux v0 v1 v2 v3 bx0 hV6 hp0 hp0m hrd6
            go_upto_region 11 with fail
            refine wp_region_lastN (by kernel_rfl) 14 (by kernel_rfl) (by kernel_rfl) (by kernel_rfl)
              (fun u => { tmps := #[.pointer (some ⟨g, 0, none⟩), .int .i64 q, undef, undef, .pointer (some ⟨w.heap.size, 0, none⟩), .pointer (some ⟨b, 0, none⟩), .int .i64 (k : Int), .pointer (some ⟨w4.heap.size, 0, none⟩), .pointer (some ⟨g, 0, none⟩), .agg #[.slice (some ⟨rb, 0, none⟩) its.length cap], .pointer (some ⟨g, 0, none⟩), .int .i64 q, .bool true, .pointer (some ⟨g, 0, none⟩), .pointer (some ⟨b, 0, none⟩), .slice (some ⟨rb, 0, none⟩) its.length cap, .int .i64 (its.length : Int), .int .i64 (k : Int), .pointer (some ⟨b, 0, none⟩), .slice (some ⟨rb, 0, none⟩) its.length cap, .int .i64 (k : Int), .pointer (some ⟨rb, k * 4, none⟩), .agg #[.slice (some ⟨nb, 0, none⟩) ph.names.length nc, .int .i64 ph.key, .int .i64 ph.maxN, .int .i64 ph.maxB], .pointer (some ⟨g, 0, none⟩), .int .i64 ((1 : Nat) : Int), undef, undef, undef, undef, undef, undef, undef, undef, undef, undef, undef, undef, undef, undef, undef, undef, .bool false, .bool false, undef, .bool true, .bool true, u 0, u 1, u 2, u 3, u 4, u 5, u 6, u 7, u 8, u 9, u 10, u 11, u 12, u 13, undef, undef, undef, undef, undef, undef, undef, undef, undef, undef, undef, undef, undef, undef, undef, undef, undef, undef, undef, undef, undef, undef, undef, undef, undef, undef, undef, undef, undef, undef, undef, undef, undef, undef, undef, undef, undef, undef, undef], defers := [] })
              (fun W => Below w6.heap.size w6 W)
              (RN w6.heap.size ph.names.length (ph.names.map Value.string) x0 (fun i => ([undef, .pointer (some ⟨w4.heap.size, 0, none⟩), .slice (some ⟨nb, 0, none⟩) ph.names.length nc, undef, .pointer (some ⟨b, 0, none⟩), .slice (some ⟨rb, 0, none⟩) its.length cap, .pointer (some ⟨rb, 0, none⟩), .pointer (some ⟨rb, 0, none⟩), .slice (some ⟨nb0, 0, none⟩) p0.2.names.length nc0, .pointer (some ⟨nb0, 0, none⟩), .string x0, undef, undef, .pointer (some ⟨w4.heap.size, 0, none⟩)] : List Value).getD i undef))
              (LeF w6.heap.size) (fun _ => undef) (Below.refl _ _).drew ?_ ?_ ?_
            · intro i j L v W W' _ _ hij hLi hLj hcl hdj _ hR hle
              exact rn_stay hij hLi hLj (fun h => hcl 12 h 3 (dep_of (by kernel_rfl))) (fun e => hdj 3 (by subst e; exact dep_of (by kernel_rfl))) hR hle
            · intro i hi' L u W hL hdL hC hd
              have hsz : w6.heap.size ≤ W.heap.size := hC.size
              match i, hi' with
              | 0, _ =>
                refine wpOp_step rfl (fun K hK => ?_)
                clear hd
                go_simp
                exact hK _ _ ⟨_, rfl, rn_0.2 ⟨_, rfl, hsz, fun _ => heap_alloc_new W _⟩, leF_mk (by decide) (by decide) (World.grownBy_alloc _ _ _), hC.alloc hsz _⟩
              | 1, _ =>
                refine wpOp_step rfl (fun K hK => ?_)
                clear hd
                go_simp
                exact hK _ _ ⟨_, rfl, (rn_eq (i := 1) (by decide) (by decide) (by decide) (by decide)).2 rfl, leF_mk (by decide) (by decide) (World.grownBy.refl _ _), hC⟩
              | 2, _ =>
                have e1 : u 1 = .pointer (some ⟨w4.heap.size, 0, none⟩) := (rn_eq (i := 1) (by decide) (by decide) (by decide) (by decide)).1 (hd 1 (dep_of (by kernel_rfl)))
                obtain ⟨t0, t1, t2, t3, t4⟩ := HB.out W hC
                refine wpOp_step rfl (fun K hK => ?_)
                clear hd
                go_simp
                exact hK _ _ ⟨_, by simp [upd, e1], (rn_eq (i := 2) (by decide) (by decide) (by decide) (by decide)).2 rfl, leF_mk (by decide) (by decide) (World.grownBy.refl _ _), hC⟩
              | 3, _ =>
                obtain ⟨c, e0, hcB, hc0⟩ := rn_0.1 (hd 0 (dep_of (by kernel_rfl)))
                have e2 : u 2 = .slice (some ⟨nb, 0, none⟩) ph.names.length nc := (rn_eq (i := 2) (by decide) (by decide) (by decide) (by decide)).1 (hd 2 (dep_of (by kernel_rfl)))
                obtain ⟨_, _, _, _, t4⟩ := HB.out W hC
                have hz0' := hc0 hL
                refine wpOp_step rfl (fun K hK => ?_)
                clear hd
                refine wp_append_lies _ (.tmp 46) (.tmp 48) 31 (by rfl) w6.heap.size 9 i0 _ 1 16 Tryd.underlying31 hi hz0 hz1 hz2 (by rfl) (by decide) (.slice (some ⟨c, 0, none⟩) 0 0) 0 [] (by exact e0) (own_zeroD hz0' hcB) ⟨nb, 0, none⟩ ph.names.length nc (ph.names.map Value.string) (by exact e2) (by simp) t4 (by intro x hx; obtain ⟨s, _, rfl⟩ := List.mem_map.1 hx; rfl) (by omega) (by unfold maxLen; omega) (by omega) hsz W.heap.size rfl ?_
                intro g3 cap3 w7 ho7 hg7 _ _
                rw [Nat.zero_add, List.nil_append] at ho7
                rw [Nat.zero_add]
                refine hK _ _ ⟨_, rfl, rn_3.2 fun _ => ho7, ?_, below_fresh hC hg7 hcB hsz⟩
                unfold LeF; rw [if_pos rfl]; exact ⟨c, hcB, hz0', hg7⟩
              | 4, _ =>
                refine wpOp_step rfl (fun K hK => ?_)
                clear hd
                go_simp
                exact hK _ _ ⟨_, rfl, (rn_eq (i := 4) (by decide) (by decide) (by decide) (by decide)).2 rfl, leF_mk (by decide) (by decide) (World.grownBy.refl _ _), hC⟩
              | 5, _ =>
                have e4 : u 4 = .pointer (some ⟨b, 0, none⟩) := (rn_eq (i := 4) (by decide) (by decide) (by decide) (by decide)).1 (hd 4 (dep_of (by kernel_rfl)))
                obtain ⟨t0, t1, t2, t3, t4⟩ := HB.out W hC
                refine wpOp_step rfl (fun K hK => ?_)
                clear hd
                go_simp
                exact hK _ _ ⟨_, by simp [upd, e4], (rn_eq (i := 5) (by decide) (by decide) (by decide) (by decide)).2 rfl, leF_mk (by decide) (by decide) (World.grownBy.refl _ _), hC⟩
              | 6, _ =>
                have e5 : u 5 = .slice (some ⟨rb, 0, none⟩) its.length cap := (rn_eq (i := 5) (by decide) (by decide) (by decide) (by decide)).1 (hd 5 (dep_of (by kernel_rfl)))
                have hpos : (0 : Int) < (its.length : Int) := by omega
                have hposN : 0 < its.length := by omega
                have hpne : ¬ its = [] := fun e => by rw [e] at hposN; simp at hposN
                refine wpOp_step rfl (fun K hK => ?_)
                clear hd
                go_simp
                exact hK _ _ ⟨_, by simp [upd, e5], (rn_eq (i := 6) (by decide) (by decide) (by decide) (by decide)).2 rfl, leF_mk (by decide) (by decide) (World.grownBy.refl _ _), hC⟩
              | 7, _ =>
                have e6 : u 6 = .pointer (some ⟨rb, 0, none⟩) := (rn_eq (i := 6) (by decide) (by decide) (by decide) (by decide)).1 (hd 6 (dep_of (by kernel_rfl)))
                refine wpOp_step rfl (fun K hK => ?_)
                clear hd
                go_simp
                exact hK _ _ ⟨_, by simp [upd, e6], (rn_eq (i := 7) (by decide) (by decide) (by decide) (by decide)).2 rfl, leF_mk (by decide) (by decide) (World.grownBy.refl _ _), hC⟩
              | 8, _ =>
                have e7 : u 7 = .pointer (some ⟨rb, 0, none⟩) := (rn_eq (i := 7) (by decide) (by decide) (by decide) (by decide)).1 (hd 7 (dep_of (by kernel_rfl)))
                obtain ⟨t0, t1, t2, t3, t4⟩ := HB.out W hC
                refine wpOp_step rfl (fun K hK => ?_)
                clear hd
                go_simp
                exact hK _ _ ⟨_, by simp [upd, e7], (rn_eq (i := 8) (by decide) (by decide) (by decide) (by decide)).2 rfl, leF_mk (by decide) (by decide) (World.grownBy.refl _ _), hC⟩
              | 9, _ =>
                have e8 : u 8 = .slice (some ⟨nb0, 0, none⟩) p0.2.names.length nc0 := (rn_eq (i := 8) (by decide) (by decide) (by decide) (by decide)).1 (hd 8 (dep_of (by kernel_rfl)))
                have hpos : (0 : Int) < (p0.2.names.length : Int) := by omega
                have hposN : 0 < p0.2.names.length := by omega
                have hpne : ¬ p0.2.names = [] := fun e => by rw [e] at hposN; simp at hposN
                refine wpOp_step rfl (fun K hK => ?_)
                clear hd
                go_simp
                exact hK _ _ ⟨_, by simp [upd, e8], (rn_eq (i := 9) (by decide) (by decide) (by decide) (by decide)).2 rfl, leF_mk (by decide) (by decide) (World.grownBy.refl _ _), hC⟩
              | 10, _ =>
                have e9 : u 9 = .pointer (some ⟨nb0, 0, none⟩) := (rn_eq (i := 9) (by decide) (by decide) (by decide) (by decide)).1 (hd 9 (dep_of (by kernel_rfl)))
                obtain ⟨t0, t1, t2, t3, t4⟩ := HB.out W hC
                refine wpOp_step rfl (fun K hK => ?_)
                clear hd
                go_simp
                exact hK _ _ ⟨_, by simp [upd, e9], (rn_eq (i := 10) (by decide) (by decide) (by decide) (by decide)).2 rfl, leF_mk (by decide) (by decide) (World.grownBy.refl _ _), hC⟩
              | 11, _ =>
                have e10 : u 10 = .string x0 := (rn_eq (i := 10) (by decide) (by decide) (by decide) (by decide)).1 (hd 10 (dep_of (by kernel_rfl)))
                refine wpOp_step rfl (fun K hK => ?_)
                clear hd
                go_simp
                exact hK _ _ ⟨_, by simp [upd, e10], rn_11.2 ⟨_, rfl, hsz, fun _ => heap_alloc_new W _⟩, leF_mk (by decide) (by decide) (World.grownBy_alloc _ _ _), hC.alloc hsz _⟩
              | 12, _ =>
                have ho3 := rn_3.1 (hd 3 (dep_of (by kernel_rfl))) hL
                obtain ⟨c, e11, hcB, hc0⟩ := rn_11.1 (hd 11 (dep_of (by kernel_rfl)))
                have hz0' := hc0 hL
                obtain ⟨g4, cap4, e3, hB4, _⟩ := ho3.form (by omega)
                rw [e3] at ho3
                refine wpOp_step rfl (fun K hK => ?_)
                clear hd
                refine wp_append_lies _ (.tmp 49) (.tmp 57) 31 (by rfl) w6.heap.size 9 i0 _ 1 16 Tryd.underlying31 hi hz0 hz1 hz2 (by rfl) (by decide) (.slice (some ⟨g4, 0, none⟩) ph.names.length cap4) ph.names.length (ph.names.map Value.string) (by exact e3) ho3 ⟨c, 0, none⟩ 1 1 [.string x0] (by exact e11) (by rfl) (World.news_of_block hz0') (by intro x hx; simp at hx; subst hx; rfl) (by omega) (by unfold maxLen; omega) (by omega) hsz W.heap.size rfl ?_
                intro g3 cap3 w7 ho7 hg7 _ _
                refine hK _ _ ⟨_, rfl, rn_12.2 ho7, ?_, below_fresh hC hg7 hB4 hsz⟩
                unfold LeF; rw [if_neg (by decide), if_pos rfl]; exact ⟨g4, hB4, hg7⟩
              | 13, _ =>
                refine wpOp_step rfl (fun K hK => ?_)
                clear hd
                go_simp
                exact hK _ _ ⟨_, rfl, (rn_eq (i := 13) (by decide) (by decide) (by decide) (by decide)).2 rfl, leF_mk (by decide) (by decide) (World.grownBy.refl _ _), hC⟩
              | i + 14, h14 => exact absurd h14 (by omega)
            · intro L u W hC hall hLn hd
              have ho := rn_12.1 (hd 12 (by decide))
              have e13 : u 13 = .pointer (some ⟨w4.heap.size, 0, none⟩) := (rn_eq (i := 13) (by decide) (by decide) (by decide) (by decide)).1 (hd 13 (by decide))
              obtain ⟨g5, cap5, e12, hB5, _⟩ := ho.form (by omega)
              rw [e12] at ho
              have hn : NOwn g W (.slice (some ⟨g5, 0, none⟩) (ph.names.length + 1) cap5) (ph.names ++ [x0]) := nown_of_own (B := w6.heap.size) (by simpa using ho) hgl (by simp)
              have hV := (HV6.out.below hC).setNames hn ⟨fun s hs => by
                rcases List.mem_append.1 hs with hs | hs
                · exact hph.1 s hs
                · rw [List.mem_singleton.1 hs]; exact hxs, by simp, by simp; omega⟩
              obtain ⟨v0, v1, v2, v3, f0, f1, f2, f3⟩ := four_factsC (HV6.out.below hC).var
              have HV := Lib.hid hV
              clear ho hn hV hd hi hz0 hz1 hz2
              refine wpOp_step rfl (fun K hK => ?_)
              go_simp
              refine hK _ _ ?_
              clear hK K
              go_wp2
              go_meet
              exact ⟨its, rb, cap, _, _, HV.out.mono (by omega), hk', by omega⟩
          · have n1 : ((r : Int) == 1) = false := by simp; omega
            by_cases e2 : r = 2
            · subst e2
              go_wp2_with fail
              refine (pick_lit g 3 3 rfl (by decide) B (m + 100 + 1 + 1 + 1) _ (by omega) (by decide) (hrd6.alloc _)).mono ?_
              rintro e w7 ⟨r7, rfl, hr7, hr7', hd7⟩
              obtain ⟨s, hs, hsk⟩ := lit_str (K := 40) hd7 hrd6.lt (by decide) r7 (by simp; omega)
              have hV7 := hV6.keep hd7.of_alloc
              have hV8 := hV7.alloc (.cells #[.string s] 9)
              have hgl := hV7.cin.drawn.1.lt
              have hn : NOwn g (w7.alloc (.cells #[.string s] 9)) (.slice (some ⟨w7.heap.size, 0, none⟩) 1 1) [s] := ⟨w7.heap.size, 1, #[.string s], rfl, Nat.le_refl _, by decide, by omega, heap_alloc_new w7 _, fun j t hj => by
                match j, hj with
                | 0, hj => simpa using hj⟩
              obtain ⟨v0, v1, v2, v3, f0, f1, f2, f3⟩ := four_factsC hV8.var
              have HV9 := Lib.hid (hV8.setNames hn ⟨fun t ht => by rw [List.mem_singleton.1 ht]; exact hsk, by simp, by simp⟩)
              have hr7i : (r7 : Int) < 3 := by omega
              clear hV6 hV7 hV8 hd7 hrd6 hr7 hgl hn
              go_wp2
              go_meet
              exact ⟨its, rb, cap, _, _, HV9.out.mono (by omega), hk', by omega⟩
            · have n2 : ((r : Int) == 2) = false := by simp; omega
              by_cases e3 : r = 3
              · subst e3
                have hV6b := four_factsC hV6.var
                go_wp2_with fail
                refine (pick_lit g 2 2 rfl (by decide) B (m + 100 + 1 + 1 + 1) _ (by omega) (by decide) (hrd6.alloc _)).mono ?_
                rintro e w7 ⟨r7, rfl, hr7, hr7', hd7⟩
                obtain ⟨x, hx, hx0, hx1⟩ := lit_int (lo := 0) (hi := 20000) hd7 hrd6.lt (by repeat (first | exact trivial | refine ⟨⟨_, rfl, by omega, by omega⟩, ?_⟩)) r7 (by simp; omega)
                have hV7 := hV6.keep hd7.of_alloc
                obtain ⟨v0, v1, v2, v3, f0, f1, f2, f3⟩ := four_factsC hV7.var
                have HV9 := Lib.hid (hV7.setKey x)
                have hr7i : (r7 : Int) < 2 := by omega
                clear hV6 hV7 hd7 hrd6 hV6b hr7
                go_wp2
                go_meet
                exact ⟨its, rb, cap, _, _, HV9.out.mono (by omega), hk', by omega⟩
              · have n3 : ((r : Int) == 3) = false := by simp; omega
                by_cases e4 : r = 4
                · subst e4
                  have hV6b := four_factsC hV6.var
                  go_wp2_with fail
                  refine (pick_lit g 2 2 rfl (by decide) B (m + 100 + 1 + 1 + 1) _ (by omega) (by decide) (hrd6.alloc _)).mono ?_
                  rintro e w7 ⟨r7, rfl, hr7, hr7', hd7⟩
                  obtain ⟨x, hx, hx0, hx1⟩ := lit_int (lo := 0) (hi := 20000) hd7 hrd6.lt (by repeat (first | exact trivial | refine ⟨⟨_, rfl, by omega, by omega⟩, ?_⟩)) r7 (by simp; omega)
                  have hV7 := hV6.keep hd7.of_alloc
                  obtain ⟨v0, v1, v2, v3, f0, f1, f2, f3⟩ := four_factsC hV7.var
                  have HV9 := Lib.hid (hV7.setMaxN x)
                  have hr7i : (r7 : Int) < 2 := by omega
                  clear hV6 hV7 hd7 hrd6 hV6b hr7
                  go_wp2
                  go_meet
                  exact ⟨its, rb, cap, _, _, HV9.out.mono (by omega), hk', by omega⟩
                · have n4 : ((r : Int) == 4) = false := by simp; omega
                  by_cases e5 : r = 5
                  · subst e5
                    have hV6b := four_factsC hV6.var
                    go_wp2_with fail
                    refine (pick_lit g 2 2 rfl (by decide) B (m + 100 + 1 + 1 + 1) _ (by omega) (by decide) (hrd6.alloc _)).mono ?_
                    rintro e w7 ⟨r7, rfl, hr7, hr7', hd7⟩
                    obtain ⟨x, hx, hx0, hx1⟩ := lit_int (lo := 0) (hi := 20000) hd7 hrd6.lt (by repeat (first | exact trivial | refine ⟨⟨_, rfl, by omega, by omega⟩, ?_⟩)) r7 (by simp; omega)
                    have hV7 := hV6.keep hd7.of_alloc
                    obtain ⟨v0, v1, v2, v3, f0, f1, f2, f3⟩ := four_factsC hV7.var
                    have HV9 := Lib.hid (hV7.setMaxB x)
                    have hr7i : (r7 : Int) < 2 := by omega
                    clear hV6 hV7 hd7 hrd6 hV6b hr7
                    go_wp2
                    go_meet
                    exact ⟨its, rb, cap, _, _, HV9.out.mono (by omega), hk', by omega⟩
                  · have n5 : ((r : Int) == 5) = false := by simp; omega
                    have hVa := hV6
                    go_wp2_with fail
                    go_loopw [] (fun wr => ∃ (its : List (Value × Hs)) (rb cap : Nat), VIn w0 wr B g (m + 105 + 20 * its.length) b its (.slice (some ⟨rb, 0, none⟩) its.length cap) w4.heap.size (.slice (some ⟨nb, 0, none⟩) ph.names.length nc) ph ∧ k < its.length ∧ its.length ≤ 5) (fun wr => match wr.cell? ⟨b, 0, none⟩ with | some (.slice _ n _) => 20 - n | _ => 0)
                    case atStart => exact ⟨its, rb, cap, hV6.mono (by omega), hk', by omega⟩
                    case round =>
                      obtain ⟨its2, rb2, cap2, hV, hk2, hl5⟩ := hrel
                      obtain ⟨x0, _⟩ := one_factC hV.cin.box
                      clear hV6 hVa hk' hki
                      by_cases hlt : its2.length ≤ 4
                      · have hlti : (its2.length : Int) ≤ 4 := by omega
                        have hNT := fun W => spec_numtext (its2.length : Int) W
                        obtain ⟨N, hN⟩ : ∃ N, N = numT (its2.length : Int) := ⟨_, rfl⟩
                        have hnl : N.length ≤ 6 := by rw [hN]; exact numT_lenC _
                        rw [← hN] at hNT
                        obtain ⟨i0, hi, hz0, hz1, hz2⟩ := info_parts Tryd.infoHs
                        have hsz : (⟨N.toArray⟩ : ByteArray).size ≤ 6 := by rw [size_len]; simpa using hnl
                        have hvlt := hV.lt
                        have hg5 : g < wr.heap.size := hV.cin.drawn.1.lt
                        have hVne := hV.ne
                        have hVok := hV.cin.ok
                        have hVus := hV.us
                        have hwc := hV.wc
                        have hgc : g ≠ w4.heap.size := by omega
                        have hrow : ∀ r, (Value.ownBlock (.slice (some ⟨rb2, 0, none⟩) its2.length cap2)) = some r → r < wr.heap.size := fun r hr => by
                          obtain ⟨_, cs, hc⟩ := own_type hV.cin.own hr
                          exact (Array.getElem?_eq_some_iff.1 hc).1
                        have HX0 := Lib.hid x0
                        clear hN hnl
                        go_upto_region 7 with fail
                        refine wp_region_lastL (by kernel_rfl) 12 (by kernel_rfl) (by kernel_rfl) (by kernel_rfl)
                          (fun u => { tmps := #[.pointer (some ⟨g, 0, none⟩), .int .i64 q, undef, undef, .pointer (some ⟨w.heap.size, 0, none⟩), .pointer (some ⟨b, 0, none⟩), .int .i64 (k : Int), .pointer (some ⟨w4.heap.size, 0, none⟩), .pointer (some ⟨g, 0, none⟩), .agg #[.slice (some ⟨rb, 0, none⟩) its.length cap], .pointer (some ⟨g, 0, none⟩), .int .i64 q, .bool true, .pointer (some ⟨g, 0, none⟩), .pointer (some ⟨b, 0, none⟩), .slice (some ⟨rb, 0, none⟩) its.length cap, .int .i64 (its.length : Int), .int .i64 (k : Int), .pointer (some ⟨b, 0, none⟩), .slice (some ⟨rb, 0, none⟩) its.length cap, .int .i64 (k : Int), .pointer (some ⟨rb, k * 4, none⟩), .agg #[.slice (some ⟨nb, 0, none⟩) ph.names.length nc, .int .i64 ph.key, .int .i64 ph.maxN, .int .i64 ph.maxB], .pointer (some ⟨g, 0, none⟩), .int .i64 (r : Int), .pointer (some ⟨b, 0, none⟩), .slice (some ⟨rb2, 0, none⟩) its2.length cap2, .int .i64 (its2.length : Int), .bool true, u 0, u 1, u 2, u 3, u 4, u 5, u 6, u 7, u 8, u 9, u 10, u 11, .bool false, .bool false, undef, .bool false, .bool false, undef, undef, undef, undef, undef, undef, undef, undef, undef, undef, undef, undef, undef, undef, .bool false, .bool false, undef, undef, undef, undef, undef, undef, undef, .bool false, .bool false, undef, undef, undef, undef, undef, undef, .bool false, .bool false, undef, undef, undef, undef, undef, undef, .bool false, .bool false, undef, undef, undef, undef, undef, undef, undef, undef, undef, undef, undef, undef], defers := [] })
                          (CRowV 10 wr.heap.size w0 B g (m + 105 + 20 * its2.length) b its2 (.slice (some ⟨rb2, 0, none⟩) its2.length cap2) w4.heap.size (.slice (some ⟨nb, 0, none⟩) ph.names.length nc) ph)
                          (RAt [REq (.pointer (some ⟨b, 0, none⟩)), REq (.slice (some ⟨rb2, 0, none⟩) its2.length cap2), REq (.pointer (some ⟨b, 0, none⟩)), REq (.slice (some ⟨rb2, 0, none⟩) its2.length cap2), REq (.int .i64 (its2.length : Int)), RStr 6, RStr 7, RSlit wr.heap.size 7, RHs wr.heap.size, RHBox wr.heap.size, RAppV g w0.heap.size w4.heap.size its2, REq (.pointer (some ⟨b, 0, none⟩))])
                          (LeAtN 10 g (Value.ownBlock (.slice (some ⟨rb2, 0, none⟩) its2.length cap2))) (fun i => [u29, u30, u31, u32, u33, u34, u35, u36, u37, u38, u39, u40].getD i undef) ⟨⟨hV.cin.box, hV.cin.drawn.drew, fun _ => hV.cin.own, hV.cin.nms, Nat.le_refl _, hg0, hV.cin.wb⟩, hV.var, hV.un⟩ ?_ ?_ ?_
                        · intro i j x W W' hi' _ hij hR hle
                          match i, hi' with
                          | 0, _ => exact stay2_eq g _ _ x W W' hR (leN_two hle)
                          | 1, _ => exact stay2_eq g _ _ x W W' hR (leN_two hle)
                          | 2, _ => exact stay2_eq g _ _ x W W' hR (leN_two hle)
                          | 3, _ => exact stay2_eq g _ _ x W W' hR (leN_two hle)
                          | 4, _ => exact stay2_eq g _ _ x W W' hR (leN_two hle)
                          | 5, _ => exact stay2_strC g _ _ x W W' hR (leN_two hle)
                          | 6, _ => exact stay2_strC g _ _ x W W' hR (leN_two hle)
                          | 7, _ => exact stay2_slit hg5 hrow x W W' hR (leN_two hle)
                          | 8, _ => exact stay2_hs hg5 hrow x W W' hR (leN_two hle)
                          | 9, _ => exact stay2_hbox hg5 hrow x W W' hR (leN_two hle)
                          | 10, _ => exact stay_appv hg0 x W W' hR (leN_not (Ne.symm hij) hle)
                          | 11, _ => exact stay2_eq g _ _ x W W' hR (leN_two hle)
                        · intro i hi' L z W kk hkk hL hC hd'
                          have hsz0 : wr.heap.size ≤ W.heap.size := hC.1.2.2.2.2.1
                          match i, hi' with
                          | 0, _ =>
                            refine wpOp_step rfl (fun K hK => ?_)
                            clear hd'
                            go_simp
                            exact hK _ _ ⟨_, rfl, rfl, leN_mk (by decide) (World.grownBy.refl _ _), hC.same⟩
                          | 1, _ =>
                            have e0 : z 0 = .pointer (some ⟨b, 0, none⟩) := hd' 0 (dep_of (by kernel_rfl))
                            have x3 : W.cell? ⟨b, 0, none⟩ = some (.slice (some ⟨rb2, 0, none⟩) its2.length cap2) := by simp [World.cell?, hC.1.1]
                            refine wpOp_step rfl (fun K hK => ?_)
                            clear hd'
                            go_simp
                            exact hK _ _ ⟨_, by simp [upd, e0], rfl, leN_mk (by decide) (World.grownBy.refl _ _), hC.same⟩
                          | 2, _ =>
                            refine wpOp_step rfl (fun K hK => ?_)
                            clear hd'
                            go_simp
                            exact hK _ _ ⟨_, rfl, rfl, leN_mk (by decide) (World.grownBy.refl _ _), hC.same⟩
                          | 3, _ =>
                            have e2 : z 2 = .pointer (some ⟨b, 0, none⟩) := hd' 2 (dep_of (by kernel_rfl))
                            have x3 : W.cell? ⟨b, 0, none⟩ = some (.slice (some ⟨rb2, 0, none⟩) its2.length cap2) := by simp [World.cell?, hC.1.1]
                            refine wpOp_step rfl (fun K hK => ?_)
                            clear hd'
                            go_simp
                            exact hK _ _ ⟨_, by simp [upd, e2], rfl, leN_mk (by decide) (World.grownBy.refl _ _), hC.same⟩
                          | 4, _ =>
                            have e3 : z 3 = .slice (some ⟨rb2, 0, none⟩) its2.length cap2 := hd' 3 (dep_of (by kernel_rfl))
                            refine wpOp_step rfl (fun K hK => ?_)
                            clear hd'
                            go_simp
                            exact hK _ _ ⟨_, by simp [upd, e3], rfl, leN_mk (by decide) (World.grownBy.refl _ _), hC.same⟩
                          | 5, _ =>
                            have e4 : z 4 = .int .i64 (its2.length : Int) := hd' 4 (dep_of (by kernel_rfl))
                            refine wpOp_step rfl (fun K hK => ?_)
                            clear hd'
                            go_simp
                            refine (hNT W).mono ?_
                            rintro e w8 ⟨rfl, hb8⟩
                            have hd8 : Drawn W w8 B g (m + 105 + 20 * its2.length + kk) := drawn_belowC (Drawn.refl hC.1.2.1.1) hb8 hC.1.2.1.1.lt
                            exact hK _ _ ⟨.string ⟨N.toArray⟩, by simp [upd, e4, strV], ⟨_, rfl, hsz⟩, leN_mk (by decide) hd8.2, hC.keep hgc (d := 0) hd8 (by omega)⟩
                          | 6, _ =>
                            obtain ⟨s, e5, hs⟩ : RStr 6 (z 5) W := hd' 5 (dep_of (by kernel_rfl))
                            have hz7 : ¬ (9223372036854775807 < 1 + s.size) := by omega
                            refine wpOp_step rfl (fun K hK => ?_)
                            clear hd'
                            go_simp
                            refine hK _ _ ⟨.string ((⟨#[104]⟩ : ByteArray) ++ s), by simp [upd, e5], ⟨_, rfl, ?_⟩, leN_mk (by decide) (World.grownBy.refl _ _), hC.same⟩
                            rw [ByteArray.size_append, show (ByteArray.mk #[104]).size = 1 from rfl]; omega
                          | 7, _ =>
                            obtain ⟨s, e6, hs⟩ : RStr 7 (z 6) W := hd' 6 (dep_of (by kernel_rfl))
                            refine wpOp_step rfl (fun K hK => ?_)
                            clear hd'
                            go_simp
                            exact hK _ _ ⟨_, by simp [upd, e6], ⟨_, s, rfl, hsz0, heap_alloc_new W _, hs⟩, leN_mk (by decide) (World.grownBy_alloc _ _ _), hC.alloc hgc _⟩
                          | 8, _ =>
                            obtain ⟨c, s, e7, hcB, hcb, hs⟩ : RSlit wr.heap.size 7 (z 7) W := hd' 7 (dep_of (by kernel_rfl))
                            refine wpOp_step rfl (fun K hK => ?_)
                            clear hd'
                            go_simp
                            exact hK _ _ ⟨hval (.slice (some ⟨c, 0, none⟩) 1 1) ⟨[s], 1, 1, 1⟩, by simp [upd, e7, hval], ⟨_, _, rfl, ⟨c, 1, #[.string s], rfl, Nat.le_refl _, by decide, hcB, hcb, fun j t hj => by match j, hj with | 0, hj => simpa using hj⟩, ⟨fun t ht => by rw [List.mem_singleton.1 ht]; exact Nat.le_trans hs (by decide), by simp, by simp⟩⟩, leN_mk (by decide) (World.grownBy.refl _ _), hC.same⟩
                          | 9, _ =>
                            obtain ⟨u, h1, e8, hn1, hs1⟩ : RHs wr.heap.size (z 8) W := hd' 8 (dep_of (by kernel_rfl))
                            unfold hval at e8
                            have hne : W.grownBy (W.alloc (.cells #[u, .int .i64 h1.key, .int .i64 h1.maxN, .int .i64 h1.maxB] 33)) (some g) := World.grownBy_alloc _ _ _
                            refine wpOp_step rfl (fun K hK => ?_)
                            clear hd'
                            go_simp
                            exact hK _ _ ⟨_, by simp [upd, e8], ⟨_, u, h1, rfl, hsz0, heap_alloc_new W _, hn1.keep hg5 hrow (.inl hne), hs1⟩, leN_mk (by decide) hne, hC.alloc hgc _⟩
                          | 10, _ =>
                            have e1 : z 1 = .slice (some ⟨rb2, 0, none⟩) its2.length cap2 := hd' 1 (dep_of (by kernel_rfl))
                            obtain ⟨c, u, h1, e9, hcB, hcb, hn1, hs1⟩ : RHBox wr.heap.size (z 9) W := hd' 9 (dep_of (by kernel_rfl))
                            have hown := hC.1.2.2.1 hL
                            refine wpOp_step rfl (fun K hK => ?_)
                            clear hd'
                            refine wp_append_lies _ (.tmp 30) (.tmp 38) 23 (by rfl) w0.heap.size 33 i0 _ 4 48 Tryd.underlying23 hi hz0 hz1 hz2 (by rfl) (by decide) (.slice (some ⟨rb2, 0, none⟩) its2.length cap2) its2.length (icells its2) (by exact e1) hown ⟨c, 0, none⟩ 1 1 [u, .int .i64 h1.key, .int .i64 h1.maxN, .int .i64 h1.maxB] (by exact e9) (by rfl) (World.news_of_block hcb) (by obtain ⟨_, _, _, rfl, _⟩ := hn1; intro x hx; simp at hx; rcases hx with rfl | rfl | rfl | rfl <;> rfl) (by omega) (by unfold maxLen; omega) (by omega) (by have := hC.1.2.1.2.size; omega) W.heap.size rfl ?_
                            intro g3 cap3 w7 ho7 hg7 hat7 _
                            refine hK _ _ ⟨_, rfl, ⟨⟨(u, h1), (hn1.keep hg5 hrow (.inr hg7)).own hg5, hs1, ho7⟩, fun e => ?_⟩, ?_, ?_⟩
                            · have e2 : g3 = w4.heap.size := by simpa [Value.ownBlock] using e
                              rcases hat7 with hat7 | hat7
                              · exact hVne (by rw [hat7, e2])
                              · omega
                            · unfold LeAtN; rw [if_pos rfl]; exact hg7
                            · exact hC.app hL hVok hVne hg7
                          | 11, _ =>
                            refine wpOp_step rfl (fun K hK => ?_)
                            clear hd'
                            go_simp
                            exact hK _ _ ⟨_, rfl, rfl, leN_mk (by decide) (World.grownBy.refl _ _), hC.same⟩
                        · intro L z W kk hkk hC hd'
                          have ha : RAppV g w0.heap.size w4.heap.size its2 (z 10) W := hd' 10 (by decide)
                          have e11 : z 11 = .pointer (some ⟨b, 0, none⟩) := hd' 11 (by decide)
                          obtain ⟨x3, p3, pn, hI8⟩ := CRowV.fin hC ha hVok hVus hwc
                          obtain ⟨v', e10⟩ : ∃ x, z 10 = x := ⟨_, rfl⟩
                          rw [e10] at hI8
                          obtain ⟨g5, cap5, hv, _⟩ := hI8.cin.own.form (by simp)
                          rw [show (its2 ++ [pn]).length = its2.length + 1 from by simp] at hv
                          subst hv
                          have HI8 := Lib.hid hI8
                          clear ha hC hd' hI8 hi hz0 hz1 hz2 hrow hV hVok hVus x0
                          refine wpOp_step rfl (fun K hK => ?_)
                          go_simp
                          refine hK _ _ ?_
                          clear hK K
                          go_wp2
                          go_roundw
                          case rel =>
                            have el : (its2 ++ [pn]).length = its2.length + 1 := by simp
                            exact ⟨its2 ++ [pn], g5, cap5, by rw [el]; exact HI8.out.mono (by omega), by omega, by omega⟩
                          case measure =>
                            have y := (one_factC HI8.out.cin.box).1
                            rw [y, HX0.out]
                            simp only
                            omega
                      · have hlti : ¬ (its2.length : Int) ≤ 4 := by omega
                        have HV := Lib.hid hV
                        clear hV
                        go_wp2
                        go_meet
                        exact ⟨its2, rb2, cap2, _, _, HV.out.mono (by omega), hk2, hl5⟩
        case rest =>
          obtain ⟨its2, rb2, cap2, u2, h2, hV7, hk2, hl5⟩ := hcut
          have hok7 := hV7.cin.ok
          have hus7 := hV7.us
          obtain ⟨⟨q0, q1, q2, q3, y0, y1, y2, y3⟩, ⟨f0, f1, f2, f3⟩, hrow, hbox, hdr⟩ := hV7.fin hk2
          obtain ⟨x0, _⟩ := one_factC hV7.cin.box
          obtain ⟨nb2, nc2, hu2, _⟩ := hV7.un.form
          obtain ⟨v0, v1, v2, v3, _⟩ := four_factsC hV7.var
          have hk2i : (k : Int) < (its2.length : Int) := by omega
          have hend : Hid (∃ (hs : List Hs) (a : Option Addr) (n c : Nat), (setQ4 wc rb2 (k * 4) u2 (.int .i64 h2.key) (.int .i64 h2.maxN) (.int .i64 h2.maxB)).heap[b]? = some (.cells #[.slice a n c] 25 (0, 0)) ∧ HRowA g (setQ4 wc rb2 (k * 4) u2 (.int .i64 h2.key) (.int .i64 h2.maxN) (.int .i64 h2.maxB)) (.slice a n c) hs ∧ (∀ h ∈ hs, HSm3 h) ∧ hs.length ≤ 5 ∧ Drawn w0 (setQ4 wc rb2 (k * 4) u2 (.int .i64 h2.key) (.int .i64 h2.maxN) (.int .i64 h2.maxB)) B g (m + 300)) :=
            Lib.hid ⟨_, _, _, _, hbox, hrow, fun x hx => by
              rcases List.mem_or_eq_of_mem_set hx with hx | hx
              · obtain ⟨p, hp, rfl⟩ := List.mem_map.1 hx; exact (hok7 p hp).up
              · rw [hx]; exact hus7, by rw [List.length_set, List.length_map]; exact hl5, hdr.mono (by omega)⟩
          subst hu2
          unfold setQ4 at hend
          clear hrow hbox hdr hV7 hok7 hus7
          go_wp2
          go_meet
          exact hend.out
  case rest =>
    obtain ⟨hs, a, n, c, hbox, hrow, hk, hl, hd⟩ := hcut
    obtain ⟨x0, _⟩ := one_factC hbox
    obtain ⟨y0, p0, z0, HX⟩ := HF.out _ _ _ _ _ _ hrow hk hl hd (by omega)
    clear hbox hrow hk hl hd
    go_wp2
    exact bodyPost_ret (v := .agg #[.slice a n c]) (by simp [results, Tryd.results25, go_sem, z0]) rfl HX.out
end Go.Proofs.YtojmfcpkmknleaaDoor

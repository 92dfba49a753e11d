/- What the operations of a region with an append in its midst leave for one another, told more. -/
import Derived.Test.YtabidoopodbknaaGreatDoorGTwB
namespace Go.Proofs.YtabidoopodbknaaGreatDoor
open Go.RowKit

def twTL : List ByteArray := [⟨#[47]⟩, ⟨#[47, 97]⟩, ⟨#[47, 97, 47, 98]⟩, ⟨#[47, 120, 63, 113, 61, 49]⟩]
def twHL : List ByteArray := [⟨#[111, 110, 101, 46, 120]⟩, ⟨#[97, 108, 115, 111, 46, 111, 110, 101]⟩]
def twAL : List ByteArray := [⟨#[103, 122]⟩, ⟨#[98, 114, 44, 32, 103, 122]⟩, ⟨#[42]⟩]
def twSL : List ByteArray := [⟨#[116, 49]⟩, ⟨#[116, 50]⟩]
def twNL : List ByteArray := [⟨#[99, 111, 111, 107, 105, 101]⟩, ⟨#[120, 45, 49]⟩, ⟨#[98]⟩]
def twVL : List ByteArray := [⟨#[]⟩, ⟨#[49]⟩, ⟨#[103, 122]⟩, ⟨#[112, 108, 97, 105, 110, 59, 113, 61, 48, 44, 32, 98, 114]⟩, ⟨#[116, 97, 103, 57]⟩, ⟨#[97, 32, 98]⟩, ⟨#[120, 58, 32, 121]⟩, ⟨#[116, 104, 105, 114, 116, 121, 45, 98, 121, 116, 101, 115, 45, 101, 120, 97, 99, 116, 108, 121, 45, 48, 49, 50, 51, 52, 53, 54, 55, 56]⟩, ⟨#[57]⟩]
def strA (L : List ByteArray) : Array Value := (L.map Value.string).toArray
theorem strA_at {L : List ByteArray} {w : World} {b r : Nat} {T : TypeId} (hb : w.heap[b]? = some (.cells (strA L) T (0, 0))) (hr : r < L.length) : ∃ s, s ∈ L ∧ w.cell? ⟨b, r, none⟩ = some (.string s) := by
  refine ⟨L[r], List.getElem_mem hr, ?_⟩
  rw [cell_of_row w b r _ T (0, 0) hb]
  simp [strA, hr]

def LeP (p g : Nat) (row : Option Nat) (j : Nat) (w w' : World) : Prop := if j = p then w.grownBy w' row else w.grownBy w' (some g)
theorem lep_two {p g : Nat} {row : Option Nat} {j : Nat} {w w' : World} (h : LeP p g row j w w') : w.grownBy w' (some g) ∨ w.grownBy w' row := by
  unfold LeP at h
  split at h
  · exact .inr h
  · exact .inl h
theorem lep_not {p g : Nat} {row : Option Nat} {j : Nat} {w w' : World} (hj : j ≠ p) (h : LeP p g row j w w') : w.grownBy w' (some g) := by
  unfold LeP at h; rw [if_neg hj] at h; exact h
theorem lep_mk {p g : Nat} {row : Option Nat} {j : Nat} {w w' : World} (hj : j ≠ p) (h : w.grownBy w' (some g)) : LeP p g row j w w' := by
  unfold LeP; rw [if_neg hj]; exact h
theorem lep_at {p g : Nat} {row : Option Nat} {w w' : World} (h : w.grownBy w' row) : LeP p g row p w w' := by
  unfold LeP; rw [if_pos rfl]; exact h

def RPairQ (Q : ByteArray → ByteArray → Prop) : Value → World → Prop := fun v _ => ∃ s t : ByteArray, v = .agg #[.string s, .string t] ∧ Q s t
def RInQ (L : List ByteArray) : Value → World → Prop := fun v _ => ∃ s : ByteArray, v = .string s ∧ s ∈ L
def RBoxQ (B0 : Nat) (Q : ByteArray → ByteArray → Prop) : Value → World → Prop := fun v w => ∃ b s t, v = .slice (some ⟨b, 0, none⟩) 1 1 ∧ B0 ≤ b ∧ w.heap[b]? = some (.cells #[.string s, .string t] 39 (0, 0)) ∧ Q s t
def RAppQ (b : Nat) (Q : ByteArray → ByteArray → Prop) (fs : List Fd) : Value → World → Prop := fun v w => ∃ s t : ByteArray, Q s t ∧ w.ownsRow (b + 1) 39 2 v (fs.length + 1) (fcells fs ++ [.string s, .string t])
def RCellQ (B0 : Nat) (L : List ByteArray) : Value → World → Prop := fun v w => ∃ b r s, v = .pointer (some ⟨b, r, none⟩) ∧ B0 ≤ b ∧ w.cell? ⟨b, r, none⟩ = some (.string s) ∧ s ∈ L

theorem stay2_pairq (g : Nat) (row : Option Nat) (Q : ByteArray → ByteArray → Prop) : StayTwo g row (RPairQ Q) := fun _ _ _ h _ => h
theorem stay2_inq (g : Nat) (row : Option Nat) (L : List ByteArray) : StayTwo g row (RInQ L) := fun _ _ _ h _ => h
theorem stay2_boxq {g B0 : Nat} {row : Option Nat} {Q : ByteArray → ByteArray → Prop} (hg : g < B0) (hr : ∀ r, row = some r → r < B0) : StayTwo g row (RBoxQ B0 Q) := fun _ _ _ ⟨c, s, t, h1, h2, h3, h4⟩ hh => ⟨c, s, t, h1, h2, fresh_block hg hr h2 h3 hh, h4⟩
theorem stay2_cellq {g B0 : Nat} {row : Option Nat} {L : List ByteArray} (hg : g < B0) (hr : ∀ r, row = some r → r < B0) : StayTwo g row (RCellQ B0 L) := fun _ w w' ⟨c, r, s, h1, h2, h3, h4⟩ hh => by
  refine ⟨c, r, s, h1, h2, ?_, h4⟩
  have hlt : c < w.heap.size := by
    rcases Nat.lt_or_ge c w.heap.size with h | h
    · exact h
    · exfalso
      unfold World.cell? at h3
      simp [Array.getElem?_eq_none h] at h3
  obtain ⟨o, ho⟩ : ∃ o, w.heap[c]? = some o := ⟨_, Array.getElem?_eq_getElem hlt⟩
  have h5 := fresh_block hg hr h2 ho hh
  exact (World.cell?_of_block (w := w) (h5.trans ho.symm)).trans h3
theorem stay_appq {g b : Nat} {Q : ByteArray → ByteArray → Prop} {fs : List Fd} (hg : g < b) : Stay g (RAppQ b Q fs) := fun _ _ _ ⟨s, t, h1, h3⟩ hh => ⟨s, t, h1, own_drawn h3 (by omega) hh⟩

/-- What stands of the request's box while the region runs, and of all that lay before it. -/
def CTw (p B0 : Nat) (w0 wk : World) (B g m b : Nat) (h : Hd) (v : Value) : (Nat → Prop) → Nat → World → Prop := fun L k W =>
  W.heap[b]? = some (.cells #[.string h.verb, .string h.target, .string h.host, v, .string h.body] 27 (0, 0)) ∧ Drawn w0 W B g (m + k) ∧ (¬ L p → W.ownsRow (b + 1) 39 2 v h.fs.length (fcells h.fs)) ∧ B0 ≤ W.heap.size ∧ Kept b g wk W
theorem CTw.keep {w0 wk W W' : World} {p B0 B g m b k i d : Nat} {h : Hd} {v : Value} {L : Nat → Prop} (hC : CTw p B0 w0 wk B g m b h v L k W) (hgb : g < b) (hd : Drawn W W' B g (m + k + d)) (hd1 : d ≤ 1) : CTw p B0 w0 wk B g m b h v (fun j => j = i ∨ L j) (k + 1) W' := by
  obtain ⟨h1, h2, h3, h4, h5⟩ := hC
  have hb := (Array.getElem?_eq_some_iff.1 h1).1
  exact ⟨block_keep (by omega) h1 hd.2, (h2.trans hd).mono (by omega), fun hn => own_drawn (h3 fun h => hn (.inr h)) (by omega) hd.2, Nat.le_trans h4 hd.2.size, h5.trans (Kept.of_drawn hd (by omega))⟩
theorem CTw.same {w0 wk W : World} {p B0 B g m b k i : Nat} {h : Hd} {v : Value} {L : Nat → Prop} (hC : CTw p B0 w0 wk B g m b h v L k W) : CTw p B0 w0 wk B g m b h v (fun j => j = i ∨ L j) (k + 1) W :=
  ⟨hC.1, hC.2.1.mono (by omega), fun hn => hC.2.2.1 fun h => hn (.inr h), hC.2.2.2⟩
theorem CTw.alloc {w0 wk W : World} {p B0 B g m b k i : Nat} {h : Hd} {v : Value} {L : Nat → Prop} (hC : CTw p B0 w0 wk B g m b h v L k W) (hgb : g < b) (o : Obj) : CTw p B0 w0 wk B g m b h v (fun j => j = i ∨ L j) (k + 1) (W.alloc o) :=
  hC.keep hgb (d := 0) ((Drawn.refl hC.2.1.1).alloc o) (by omega)
theorem CTw.app {w0 wk W W' : World} {p B0 B g m b k : Nat} {h : Hd} {v : Value} {L : Nat → Prop} (hC : CTw p B0 w0 wk B g m b h v L k W) (hL : ¬ L p) (hgb : g < b) (hwb : w0.heap.size ≤ b) (hg : W.grownBy W' v.ownBlock) :
    CTw p B0 w0 wk B g m b h v (fun j => j = p ∨ L j) (k + 1) W' := by
  obtain ⟨h1, h2, h3, h4, h5⟩ := hC
  have ho := h3 hL
  have hne : ∀ j, j ≤ b → some j ≠ v.ownBlock := fun j hj e => by have := (ho.lt j e.symm).1; omega
  have hb := (Array.getElem?_eq_some_iff.1 h1).1
  refine ⟨(hg.block b hb (hne b (Nat.le_refl _))).trans h1, ?_, fun hn => absurd (.inl rfl) hn, Nat.le_trans h4 hg.size, h5.trans (Kept.of_grown hg (by omega) fun r hr => .inl (by have := (ho.lt r hr).1; omega))⟩
  refine Drawn.mono (m := m + k) ⟨h2.1.keep fun j hj => hg.block j (by omega) (hne j (by omega)), ⟨hg.os.trans h2.2.os, hg.tape.trans h2.2.tape, hg.output.trans h2.2.output, Nat.le_trans h2.2.size hg.size, fun j hj hn => (hg.block j (Nat.lt_of_lt_of_le hj h2.2.size) (hne j (by omega))).trans (h2.2.block j hj hn)⟩⟩ (by omega)
theorem CTw.out {w0 wk W : World} {p B0 B g m b k : Nat} {Q : ByteArray → ByteArray → Prop} {h : Hd} {v v' : Value} {L : Nat → Prop} (hC : CTw p B0 w0 wk B g m b h v L k W) (ha : RAppQ b Q h.fs v' W) (hgw : g < w0.heap.size) (hgb : g < b) (hwb : w0.heap.size ≤ b) :
    W.cell? ⟨b, 3, none⟩ = some v ∧ W.frozen? ⟨b, 3, none⟩ = false ∧ ∃ s t : ByteArray, Q s t ∧ TB w0 (W.setCell ⟨b, 3, none⟩ v') B g (m + k) b (b + 1) { h with fs := h.fs ++ [(s, t)] } v' ∧ Kept b g wk (W.setCell ⟨b, 3, none⟩ v') := by
  obtain ⟨s, t, hq, ho⟩ := ha
  refine ⟨by simp [World.cell?, hC.1], by simp [World.frozen?, hC.1], s, t, hq, ⟨heap_setCell_same W b 3 _ _ v' hC.1, ?_, drawn_set1 hC.2.1 hgb hwb 3 _, hgw, hgb, hwb, Nat.lt_succ_self b⟩, hC.2.2.2.2.set b 3 _ (Nat.le_refl _)⟩
  dsimp only
  rw [fcells_app, List.length_append]
  exact own_setk ho (Nat.lt_succ_self b) _
/-- A box that lay before stays, and its row. -/
theorem TB.kept {w0 W W' : World} {B g m m' b bo c : Nat} {h : Hd} {v : Value} (hh : TB w0 W B g m b bo h v) (hk : Kept c g W W') (hb : b < c) (hc : ∀ r, v.ownBlock = some r → r < c) (hd : Drawn w0 W' B g m') : TB w0 W' B g m' b bo h v := by
  have hgb := hh.gb
  have hbb := hh.bb
  refine ⟨(hk.2 b (by omega) (by omega)).trans hh.box, ⟨hh.own.1, ?_⟩, hd, hh.gw, hgb, hh.wb, hbb⟩
  rcases hh.own.2 with h | ⟨r, cap, cur, hv, hB, hr, rest⟩
  · exact .inl h
  · have := hc r (by rw [hv]; rfl)
    exact .inr ⟨r, cap, cur, hv, hB, (hk.2 r (by omega) (by omega)).trans hr, rest⟩
theorem TB.row {w0 W : World} {B g m b bo : Nat} {h : Hd} {v : Value} (hh : TB w0 W B g m b bo h v) : ∀ r, v.ownBlock = some r → r < W.heap.size := fun r hr => (hh.own.lt r hr).2
/-- The first request with the two fields that it may have. -/
structure T2 (w0 W : World) (B g m b bo b6 b7 : Nat) (h : Hd) (v : Value) (x y a c : ByteArray) : Prop where
  tb : TB w0 W B g m b bo h v
  o6 : W.heap[b6]? = some (.cells #[.string x, .string a] 39 (0, 0))
  o7 : W.heap[b7]? = some (.cells #[.string y, .string c] 39 (0, 0))
  l6 : b < b6 ∧ b6 < bo
  l7 : b < b7 ∧ b7 < bo
  bo_le : bo ≤ W.heap.size
theorem T2.keep {w0 W W' : World} {B g m m' b bo b6 b7 : Nat} {h : Hd} {v : Value} {x y a c : ByteArray} (hh : T2 w0 W B g m b bo b6 b7 h v x y a c) (hd : Drawn W W' B g m') : T2 w0 W' B g m' b bo b6 b7 h v x y a c :=
  ⟨hh.tb.keep hd, block_keep (by have := hh.tb.gb; have := hh.l6; omega) hh.o6 hd.2, block_keep (by have := hh.tb.gb; have := hh.l7; omega) hh.o7 hd.2, hh.l6, hh.l7, Nat.le_trans hh.bo_le hd.2.size⟩
theorem T2.mono {w0 W : World} {B g m m' b bo b6 b7 : Nat} {h : Hd} {v : Value} {x y a c : ByteArray} (hh : T2 w0 W B g m b bo b6 b7 h v x y a c) (hm : m ≤ m') : T2 w0 W B g m' b bo b6 b7 h v x y a c := ⟨hh.tb.mono hm, hh.o6, hh.o7, hh.l6, hh.l7, hh.bo_le⟩
theorem T2.alloc {w0 W : World} {B g m b bo b6 b7 : Nat} {h : Hd} {v : Value} {x y a c : ByteArray} (hh : T2 w0 W B g m b bo b6 b7 h v x y a c) (o : Obj) : T2 w0 (W.alloc o) B g m b bo b6 b7 h v x y a c := hh.keep ((Drawn.refl hh.tb.drawn.1).alloc o)
theorem T2.setRow {w0 W W' : World} {B g m b bo b6 b7 : Nat} {h : Hd} {v v' : Value} {x y a c : ByteArray} (hh : T2 w0 W B g m b bo b6 b7 h v x y a c) (s t : ByteArray) (hg : W.grownBy W' v.ownBlock)
    (ho : W'.ownsRow bo 39 2 v' (h.fs.length + 1) (fcells h.fs ++ [.string s, .string t])) :
    W'.cell? ⟨b, 3, none⟩ = some v ∧ W'.frozen? ⟨b, 3, none⟩ = false ∧ T2 w0 (W'.setCell ⟨b, 3, none⟩ v') B g m b bo b6 b7 { h with fs := h.fs ++ [(s, t)] } v' x y a c :=
  ⟨(hh.tb.rowbox hg).1, (hh.tb.rowbox hg).2, hh.tb.setRow s t hg ho, hh.tb.other hg hh.o6 hh.l6.2 (by have := hh.l6; omega), hh.tb.other hg hh.o7 hh.l7.2 (by have := hh.l7; omega), hh.l6, hh.l7, by simpa using Nat.le_trans hh.bo_le hg.size⟩
theorem two_facts {w : World} {b : Nat} {x y : Value} {T : TypeId} (h : w.heap[b]? = some (.cells #[x, y] T (0, 0))) : w.cell? ⟨b, 0, none⟩ = some x ∧ w.cell? ⟨b, 1, none⟩ = some y ∧ w.frozen? ⟨b, 0, none⟩ = false ∧ w.frozen? ⟨b, 1, none⟩ = false := by
  refine ⟨?_, ?_, ?_, ?_⟩ <;> simp [World.cell?, World.frozen?, h]
/-- While there is no field the row may begin anywhere behind the box. -/
theorem TB.base {w0 W : World} {B g m b bo : Nat} {h : Hd} (hh : TB w0 W B g m b bo h (.slice none 0 0)) (hf : h.fs = []) (bo' : Nat) (hb : b < bo') : TB w0 W B g m b bo' h (.slice none 0 0) :=
  ⟨hh.box, by rw [hf]; exact World.ownsRow_nil _ _ _ _, hh.drawn, hh.gw, hh.gb, hh.wb, hb⟩

/-- A pointer to a field of a row that lies before. -/
def RFdF (g c : Nat) (f : Fd) : Value → World → Prop := fun v w => ∃ b r, v = .pointer (some ⟨b, r, none⟩) ∧ b < c ∧ b ≠ g ∧ w.cell? ⟨b, r, none⟩ = some (.string f.1) ∧ w.cell? ⟨b, r + 1, none⟩ = some (.string f.2)
theorem stay2_fd {g c : Nat} {row : Option Nat} {f : Fd} (hr : ∀ r, row = some r → c ≤ r) : StayTwo g row (RFdF g c f) := fun _ w w' ⟨b, r, h1, h2, h3, h4, h5⟩ hh => by
  have hlt : b < w.heap.size := by
    rcases Nat.lt_or_ge b w.heap.size with h | h
    · exact h
    · exfalso
      unfold World.cell? at h4
      simp [Array.getElem?_eq_none h] at h4
  have hk : w'.heap[b]? = w.heap[b]? := by
    rcases hh with hh | hh
    · exact hh.block b hlt (fun e => h3 (by injection e))
    · exact hh.block b hlt (fun e => by have := hr b e.symm; omega)
  exact ⟨b, r, h1, h2, h3, (World.cell?_of_block hk).trans h4, (World.cell?_of_block hk).trans h5⟩
theorem TB.field {w0 W : World} {B g m b bo c : Nat} {h : Hd} {v : Value} (hh : TB w0 W B g m b bo h v) (hc : ∀ r, v.ownBlock = some r → r < c) {i : Nat} {f : Fd} (hi : h.fs[i]? = some f) :
    ∃ rb cap, v = .slice (some ⟨rb, 0, none⟩) h.fs.length cap ∧ rb < c ∧ rb ≠ g ∧ W.cell? ⟨rb, i * 2, none⟩ = some (.string f.1) ∧ W.cell? ⟨rb, i * 2 + 1, none⟩ = some (.string f.2) := by
  have hgb := hh.gb
  have hbb := hh.bb
  rcases hh.own.2 with ⟨_, h0⟩ | ⟨rb, cap, cur, hv, hB, hr, rest⟩
  · have : h.fs = [] := List.eq_nil_of_length_eq_zero h0
    rw [this] at hi; simp at hi
  · have hlt := hc rb (by rw [hv]; rfl)
    have hadd : ∀ k, (⟨rb, 0, none⟩ : Addr).add k = ⟨rb, k, none⟩ := fun k => by unfold Addr.add; split <;> simp_all
    refine ⟨rb, cap, hv, hlt, by omega, ?_, ?_⟩
    · have := hh.own.cells (g := rb) (by rw [hv]; rfl) _ _ (fcells_at hi).1
      rw [hadd] at this
      exact this
    · have := hh.own.cells (g := rb) (by rw [hv]; rfl) _ _ (fcells_at hi).2
      rw [hadd] at this
      exact this

theorem TB.frow {w0 W : World} {B g m b bo : Nat} {h : Hd} {v : Value} (hh : TB w0 W B g m b bo h v) : FRow W v h.fs := by
  have ho := hh.own
  rcases ho.2 with ⟨rfl, h0⟩ | ⟨b, cap, cur, rfl, hb, hr, hn, hm, _, _⟩
  · have : h.fs = [] := List.eq_nil_of_length_eq_zero h0
    rw [this]
    exact ⟨none, 0, rfl, Nat.le_refl _, Nat.zero_le _, fun j f hj => by simp at hj⟩
  · have hadd : ∀ k, (⟨b, 0, none⟩ : Addr).add k = ⟨b, k, none⟩ := fun k => by unfold Addr.add; split <;> simp_all
    refine ⟨_, cap, rfl, hn, hm, fun j f hj => ⟨b, 0, rfl, (Array.getElem?_eq_some_iff.1 hr).1, ?_, ?_⟩⟩
    · have := ho.cells (g := b) rfl _ _ (fcells_at hj).1
      rw [hadd] at this
      rw [Nat.zero_add]; exact this
    · have := ho.cells (g := b) rfl _ _ (fcells_at hj).2
      rw [hadd] at this
      rw [Nat.zero_add]; exact this
theorem tl_size {s : ByteArray} (h : s ∈ twTL) : s.size ≤ 20 := (show ∀ s ∈ twTL, s.size ≤ 20 from by decide) s h
theorem hl_size {s : ByteArray} (h : s ∈ twHL) : s.size ≤ 20 := (show ∀ s ∈ twHL, s.size ≤ 20 from by decide) s h
theorem al_size {s : ByteArray} (h : s ∈ twAL) : s.size ≤ 20 := (show ∀ s ∈ twAL, s.size ≤ 20 from by decide) s h
theorem sl_size {s : ByteArray} (h : s ∈ twSL) : s.size ≤ 20 := (show ∀ s ∈ twSL, s.size ≤ 20 from by decide) s h
theorem nl_size {s : ByteArray} (h : s ∈ twNL) : s.size ≤ 20 := (show ∀ s ∈ twNL, s.size ≤ 20 from by decide) s h
theorem vl_size {s : ByteArray} (h : s ∈ twVL) : s.size ≤ 40 := (show ∀ s ∈ twVL, s.size ≤ 40 from by decide) s h

set_option maxHeartbeats 400000 in
theorem value_in (g B m : Nat) (w : World) (hm : m ≤ 900000) (h : RdAt w B g m) :
    Calls Tryz.prog 12 #[.pointer (some ⟨g, 0, none⟩)] w fun e w' => ∃ s : ByteArray, e = .returned (.string s) ∧ s ∈ twVL ∧ Drawn w w' B g (m + 1) := by
  have hg := h.lt
  go_enter Tryz.func12, Tryz.ntmps12
  go_wp2_with fail
  refine (pick_any g 9 B m _ (by omega) (by omega) (h.alloc _)).mono ?_
  rintro e w1 ⟨r, rfl, hr, hd⟩
  obtain ⟨s, hs2, hs⟩ := strA_at (L := twVL) ((hd.2.block w.heap.size (by simp) (by simp; omega)).trans (heap_alloc_new w _)) (r := r) (by show r < 9; omega)
  have hr7 : (r : Int) < 9 := by omega
  have hd' := hd.of_alloc
  clear hd
  go_wp2
  go_ret
  exact ⟨s, rfl, hs2, hd'⟩
end Go.Proofs.YtabidoopodbknaaGreatDoor

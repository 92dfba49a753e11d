import Derived.Test.YtncegikmpapldaaGreatDoorDraw3
import Derived.Test.YtncegikmpapldaaGreatDoorGcan
import Derived.Test.YtncegikmpapldaaGreatDoorGhed
import Derived.Test.YtncegikmpapldaaGreatDoorBln
import Derived.Deep.DeepCutAuto
import Derived.Test.YtncegikmpapldaaGreatDoorRegL
import Derived.Deep.AppendLies
-- from XDrawU
/- Walks: the drawing of places. -/
namespace Go.Proofs.YtncegikmpapldaaGreatDoor
open Go.RowKit

set_option maxRecDepth 100000 in
set_option maxHeartbeats 1600000 in
theorem place_any (g B m : Nat) (w : World) (hm : m ≤ 800000) (h : RdAt w B g m) :
    Calls Tryz.prog 79 #[.pointer (some ⟨g, 0, none⟩)] w (DrawnStr 30 w B g (m + 3)) := by
  have hg := h.lt
  go_enter Tryz.func79, Tryz.ntmps79
  go_wp2_with fail
  refine (pick_any g 9 B m _ (by omega) (by omega) (h.alloc _)).mono ?_
  rintro e w1 ⟨r, rfl, hr, hd⟩
  obtain ⟨s, hs, hk⟩ := lit_str (K := 10) hd hg (by decide) r (by simp; omega)
  have hr7 : (r : Int) < 9 := by omega
  have hd' := hd.of_alloc
  clear hd hr
  go_wp2_with fail
  refine (pick_any g 4 B (m + 1) _ (by omega) (by omega) hd'.1).mono ?_
  rintro e w2 ⟨r2, rfl, hr2, hd2⟩
  clear hs
  by_cases h0 : r2 = 0
  · subst h0
    have hd3 := hd'.trans hd2
    clear hr2 hd2
    go_wp2_with fail
    refine (pick_any g 4 B (m + 1 + 1) _ (by omega) (by omega) (hd3.1.alloc _)).mono ?_
    rintro e w3 ⟨r3, rfl, hr3, hd4⟩
    obtain ⟨s2, hs2, hk2⟩ := lit_str (K := 20) hd4 hd3.1.lt (by decide) r3 (by simp; omega)
    have hr8 : (r3 : Int) < 4 := by omega
    have hd5 := hd3.trans hd4.of_alloc
    clear hd4 hr3
    go_wp2
    go_ret
    exact ⟨s ++ s2, rfl, by rw [bytes_app]; omega, hd5.mono (by omega)⟩
  · have hz : ((r2 : Int) == 0) = false := beq_eq_false_iff_ne.2 (by omega)
    clear h0 hr2
    go_wp2
    go_ret
    exact ⟨s, rfl, by omega, (hd'.trans hd2).mono (by omega)⟩

set_option maxRecDepth 100000 in
set_option maxHeartbeats 1600000 in
theorem raw_any (g B m : Nat) (w : World) (hm : m ≤ 700000) (h : RdAt w B g m) :
    Calls Tryz.prog 80 #[.pointer (some ⟨g, 0, none⟩)] w (DrawnStr 50 w B g (m + 8)) := by
  go_enter Tryz.func80, Tryz.ntmps80
  go_wp2_with fail
  refine (pick_any g 4 B m _ (by omega) (by omega) h).mono ?_
  rintro e w1 ⟨k, rfl, hk, hd1⟩
  have hk5 : k = 0 ∨ k = 1 ∨ (k = 2 ∨ k = 3) := by omega
  clear hk
  rcases hk5 with rfl | rfl | hk5
  · go_wp2_with fail
    refine (pick_any g 22 B (m + 1) _ (by omega) (by omega) (hd1.1.alloc _)).mono ?_
    rintro e w2 ⟨r, rfl, hr, hd2⟩
    obtain ⟨s, hs, hk⟩ := lit_str (K := 50) hd2 hd1.1.lt (by decide) r (by simp; omega)
    have hr7 : (r : Int) < 22 := by omega
    have hd' := hd1.trans hd2.of_alloc
    clear hd2 hr
    go_wp2
    go_ret
    exact ⟨s, rfl, hk, hd'.mono (by omega)⟩
  · go_wp2_with fail
    refine (place_any g B (m + 1) _ (by omega) hd1.1).mono ?_
    rintro e w2 ⟨s, rfl, hs, hd2⟩
    go_wp2_with fail
    refine (bent_any g B (m + 1 + 3) s _ (by omega) (by omega) hd2.1).mono ?_
    rintro e w3 ⟨s3, rfl, hs3, hd3⟩
    go_wp2
    go_ret
    exact ⟨s3, rfl, by omega, ((hd1.trans hd2).trans hd3).mono (by omega)⟩
  · have n0 : ((k : Int) == 0) = false := by simp; omega
    have n1 : ((k : Int) == 1) = false := by simp; omega
    go_wp2_with fail
    refine (place_any g B (m + 1) _ (by omega) hd1.1).mono ?_
    rintro e w2 ⟨s, rfl, hs, hd2⟩
    go_wp2
    go_ret
    exact ⟨s, rfl, by omega, (hd1.trans hd2).mono (by omega)⟩

end Go.Proofs.YtncegikmpapldaaGreatDoor

-- from XHdI
/- Walks: a request under the drawing: its box, and what it holds. -/
namespace Go.Proofs.YtncegikmpapldaaGreatDoor
open Go.RowKit

set_option maxHeartbeats 400000 in
theorem hosth_any (g B m : Nat) (w : World) (hm : m ≤ 1000000) (h : RdAt w B g m) :
    Calls Tryz.prog 94 #[.pointer (some ⟨g, 0, none⟩)] w (DrawnStr 20 w B g (m + 1)) := by
  have hg := h.lt
  go_enter Tryz.func94, Tryz.ntmps94
  go_wp2_with fail
  refine (pick_any g 5 B m _ hm (by omega) (h.alloc _)).mono ?_
  rintro e w1 ⟨r, rfl, hr, hd⟩
  obtain ⟨s, hs, hk⟩ := lit_str (K := 20) hd hg (by decide) r (by simp; omega)
  have hr7 : (r : Int) < 5 := by omega
  have hd' := hd.of_alloc
  clear hd
  go_wp2
  go_ret
  exact ⟨s, rfl, hk, hd'⟩

/-- The box b holds the request h, whose fields lie in the row v, and the reader has gone on. -/
structure HIn (w0 W : World) (B g m b n : Nat) (h : Hd) (v : Value) : Prop where
  box : W.heap[b]? = some (.cells #[.string h.verb, .string h.target, .string h.host, v, .string h.body] 40 (0, 0))
  own : W.ownsRow (b + 1) 50 2 v h.fs.length (fcells h.fs)
  ok : FOk h.fs 40
  verb : h.verb.size ≤ 50
  target : h.target.size ≤ 50
  host : h.host.size ≤ 50
  body : h.body.size ≤ 50
  many : h.fs.length ≤ n
  drawn : Drawn w0 W B g m
  gb : g < b
  wb : w0.heap.size ≤ b
theorem HIn.keep {w0 W W' : World} {B g m m' b n : Nat} {h : Hd} {v : Value} (hh : HIn w0 W B g m b n h v) (hd : Drawn W W' B g m') : HIn w0 W' B g m' b n h v :=
  ⟨(hd.2.block b (Array.getElem?_eq_some_iff.1 hh.box).1 (fun e => by have := hh.gb; cases e; omega)).trans hh.box, own_drawn hh.own (by have := hh.gb; omega) hd.2, hh.ok, hh.verb, hh.target, hh.host, hh.body, hh.many, hh.drawn.trans hd, hh.gb, hh.wb⟩
theorem HIn.mono {w0 W : World} {B g m m' b n n' : Nat} {h : Hd} {v : Value} (hh : HIn w0 W B g m b n h v) (hm : m ≤ m') (hn : n ≤ n') : HIn w0 W B g m' b n' h v :=
  ⟨hh.box, hh.own, hh.ok, hh.verb, hh.target, hh.host, hh.body, Nat.le_trans hh.many hn, hh.drawn.mono hm, hh.gb, hh.wb⟩
theorem HIn.alloc {w0 W : World} {B g m b n : Nat} {h : Hd} {v : Value} (hh : HIn w0 W B g m b n h v) (o : Obj) : HIn w0 (W.alloc o) B g m b n h v :=
  hh.keep ((Drawn.refl hh.drawn.1).alloc o)
theorem HIn.lt {w0 W : World} {B g m b n : Nat} {h : Hd} {v : Value} (hh : HIn w0 W B g m b n h v) : b < W.heap.size := (Array.getElem?_eq_some_iff.1 hh.box).1
theorem HIn.setVerb {w0 W : World} {B g m b n : Nat} {h : Hd} {v : Value} (hh : HIn w0 W B g m b n h v) {s : ByteArray} (hs : s.size ≤ 50) : HIn w0 (W.setCell ⟨b, 0, none⟩ (.string s)) B g m b n { h with verb := s } v :=
  ⟨heap_setCell_same W b 0 _ _ (.string s) hh.box, own_setk hh.own (Nat.lt_succ_self b) _, hh.ok, hs, hh.target, hh.host, hh.body, hh.many, drawn_set1 hh.drawn hh.gb hh.wb 0 _, hh.gb, hh.wb⟩
theorem HIn.setTarget {w0 W : World} {B g m b n : Nat} {h : Hd} {v : Value} (hh : HIn w0 W B g m b n h v) {s : ByteArray} (hs : s.size ≤ 50) : HIn w0 (W.setCell ⟨b, 1, none⟩ (.string s)) B g m b n { h with target := s } v :=
  ⟨heap_setCell_same W b 1 _ _ (.string s) hh.box, own_setk hh.own (Nat.lt_succ_self b) _, hh.ok, hh.verb, hs, hh.host, hh.body, hh.many, drawn_set1 hh.drawn hh.gb hh.wb 1 _, hh.gb, hh.wb⟩
theorem HIn.setHost {w0 W : World} {B g m b n : Nat} {h : Hd} {v : Value} (hh : HIn w0 W B g m b n h v) {s : ByteArray} (hs : s.size ≤ 50) : HIn w0 (W.setCell ⟨b, 2, none⟩ (.string s)) B g m b n { h with host := s } v :=
  ⟨heap_setCell_same W b 2 _ _ (.string s) hh.box, own_setk hh.own (Nat.lt_succ_self b) _, hh.ok, hh.verb, hh.target, hs, hh.body, hh.many, drawn_set1 hh.drawn hh.gb hh.wb 2 _, hh.gb, hh.wb⟩
theorem HIn.setBody {w0 W : World} {B g m b n : Nat} {h : Hd} {v : Value} (hh : HIn w0 W B g m b n h v) {s : ByteArray} (hs : s.size ≤ 50) : HIn w0 (W.setCell ⟨b, 4, none⟩ (.string s)) B g m b n { h with body := s } v :=
  ⟨heap_setCell_same W b 4 _ _ (.string s) hh.box, own_setk hh.own (Nat.lt_succ_self b) _, hh.ok, hh.verb, hh.target, hh.host, hs, hh.many, drawn_set1 hh.drawn hh.gb hh.wb 4 _, hh.gb, hh.wb⟩
theorem HIn.rowbox {w0 W W' : World} {B g m b n : Nat} {h : Hd} {v : Value} (hh : HIn w0 W B g m b n h v) (hg : W.grownBy W' v.ownBlock) :
    W'.cell? ⟨b, 3, none⟩ = some v ∧ W'.frozen? ⟨b, 3, none⟩ = false := by
  have hne : some b ≠ v.ownBlock := fun e => by have := (hh.own.lt b e.symm).1; omega
  have hb := (hg.block b hh.lt hne).trans hh.box
  exact ⟨by simp [World.cell?, hb], by simp [World.frozen?, hb]⟩
/-- A field more: the row has grown in W', and the box is told. -/
theorem HIn.setRow {w0 W W' : World} {B g m b n : Nat} {h : Hd} {v v' : Value} (hh : HIn w0 W B g m b n h v) {s t : ByteArray} (hs : s.size ≤ 40) (ht : t.size ≤ 40)
    (hg : W.grownBy W' v.ownBlock) (ho : W'.ownsRow (b + 1) 50 2 v' (h.fs.length + 1) (fcells h.fs ++ [.string s, .string t])) :
    HIn w0 (W'.setCell ⟨b, 3, none⟩ v') B g m b (n + 1) { h with fs := h.fs ++ [(s, t)] } v' := by
  have hne : some b ≠ v.ownBlock := fun e => by have := (hh.own.lt b e.symm).1; omega
  have hb := (hg.block b hh.lt hne).trans hh.box
  refine ⟨heap_setCell_same W' b 3 _ _ v' hb, ?_, ?_, hh.verb, hh.target, hh.host, hh.body, ?_, ?_, hh.gb, hh.wb⟩
  · dsimp only
    rw [fcells_app, List.length_append]
    exact own_setk ho (Nat.lt_succ_self b) _
  · intro f hf
    rcases List.mem_append.1 hf with hf | hf
    · exact hh.ok f hf
    · have : f = (s, t) := by simpa using hf
      subst this; exact ⟨hs, ht⟩
  · have := hh.many; simp; omega
  · refine drawn_set1 ?_ hh.gb hh.wb 3 _
    have h1 := hh.drawn
    have hne2 : ∀ k, k < w0.heap.size → some k ≠ v.ownBlock := fun k hk e => by have := (hh.own.lt k e.symm).1; have := hh.wb; omega
    refine ⟨h1.1.keep fun k hk => hg.block k (by have := h1.1.lt; omega) (fun e => by have := (hh.own.lt k e.symm).1; have := hh.gb; omega), ⟨hg.os.trans h1.2.os, hg.tape.trans h1.2.tape, hg.output.trans h1.2.output, Nat.le_trans h1.2.size hg.size, fun k hk hn => (hg.block k (Nat.lt_of_lt_of_le hk h1.2.size) (hne2 k hk)).trans (h1.2.block k hk hn)⟩⟩
end Go.Proofs.YtncegikmpapldaaGreatDoor

-- from XRegM
/- What the operations of a region with an append in its midst leave for one another. -/
namespace Go.Proofs.YtncegikmpapldaaGreatDoor
open Go.RowKit

def RLitF (B0 n : Nat) (cs : Array Value) (T : TypeId) : Value → World → Prop := fun v w => ∃ b, v = .slice (some ⟨b, 0, none⟩) n n ∧ B0 ≤ b ∧ w.heap[b]? = some (.cells cs T (0, 0))
def RCellF (B0 K : Nat) : Value → World → Prop := fun v w => ∃ b r s, v = .pointer (some ⟨b, r, none⟩) ∧ B0 ≤ b ∧ w.cell? ⟨b, r, none⟩ = some (.string s) ∧ s.size ≤ K
def RBoxF (B0 K : Nat) (T : TypeId) : Value → World → Prop := fun v w => ∃ b s t, v = .slice (some ⟨b, 0, none⟩) 1 1 ∧ B0 ≤ b ∧ w.heap[b]? = some (.cells #[.string s, .string t] T (0, 0)) ∧ s.size ≤ K ∧ t.size ≤ K
def RSub (n : Nat) (k : Int) : Value → World → Prop := fun v _ => ∃ r : Nat, v = .int .i64 (k - (r : Int)) ∧ r < n
theorem stay_sub (g n : Nat) (k : Int) : Stay g (RSub n k) := fun _ _ _ h _ => h
def RApp (b K : Nat) (T : TypeId) (fs : List Fd) : Value → World → Prop := fun v w => ∃ s t : ByteArray, s.size ≤ K ∧ t.size ≤ K ∧ w.ownsRow (b + 1) T 2 v (fs.length + 1) (fcells fs ++ [.string s, .string t])
/-- Stable while only the blocks g and row may change. -/
def StayTwo (g : Nat) (row : Option Nat) (R : Value → World → Prop) : Prop := ∀ v w w', R v w → (w.grownBy w' (some g) ∨ w.grownBy w' row) → R v w'
theorem stay2_eq (g : Nat) (row : Option Nat) (x : Value) : StayTwo g row (REq x) := fun _ _ _ h _ => h
theorem stay2_num (g n : Nat) (row : Option Nat) : StayTwo g row (RNum n) := fun _ _ _ h _ => h
theorem stay2_str (g K : Nat) (row : Option Nat) : StayTwo g row (RStr K) := fun _ _ _ h _ => h
theorem stay2_pair (g K : Nat) (row : Option Nat) : StayTwo g row (RPair K) := fun _ _ _ h _ => h
theorem fresh_block {g B0 c : Nat} {row : Option Nat} {w w' : World} {o : Obj} (hg : g < B0) (hr : ∀ r, row = some r → r < B0) (hc : B0 ≤ c) (h : w.heap[c]? = some o) (hh : w.grownBy w' (some g) ∨ w.grownBy w' row) : w'.heap[c]? = some o := by
  have hlt := (Array.getElem?_eq_some_iff.1 h).1
  rcases hh with hh | hh
  · exact (hh.block c hlt (fun e => by injection e; omega)).trans h
  · exact (hh.block c hlt (fun e => by have := hr c e.symm; omega)).trans h
theorem stay2_lit {g B0 n : Nat} {row : Option Nat} {cs : Array Value} {T : TypeId} (hg : g < B0) (hr : ∀ r, row = some r → r < B0) : StayTwo g row (RLitF B0 n cs T) := fun _ _ _ ⟨c, h1, h2, h3⟩ hh => ⟨c, h1, h2, fresh_block hg hr h2 h3 hh⟩
theorem stay2_box {g B0 K : Nat} {row : Option Nat} {T : TypeId} (hg : g < B0) (hr : ∀ r, row = some r → r < B0) : StayTwo g row (RBoxF B0 K T) := fun _ _ _ ⟨c, s, t, h1, h2, h3, h4⟩ hh => ⟨c, s, t, h1, h2, fresh_block hg hr h2 h3 hh, h4⟩
theorem stay2_cell {g B0 K : Nat} {row : Option Nat} (hg : g < B0) (hr : ∀ r, row = some r → r < B0) : StayTwo g row (RCellF B0 K) := fun _ w w' ⟨c, r, s, h1, h2, h3, h4⟩ hh => by
  refine ⟨c, r, s, h1, h2, ?_, h4⟩
  have hlt : c < w.heap.size := by
    rcases Nat.lt_or_ge c w.heap.size with h | h
    · exact h
    · exfalso
      unfold World.cell? at h3
      simp [Array.getElem?_eq_none h] at h3
  obtain ⟨o, ho⟩ : ∃ o, w.heap[c]? = some o := ⟨_, Array.getElem?_eq_getElem hlt⟩
  have h5 := fresh_block hg hr h2 ho hh
  exact (World.cell?_of_block (w := w) (h5.trans ho.symm)).trans h3
theorem stay_app {g b K : Nat} {T : TypeId} {fs : List Fd} (hg : g < b) : Stay g (RApp b K T fs) := fun _ _ _ ⟨s, t, h1, h2, h3⟩ hh => ⟨s, t, h1, h2, own_drawn h3 (by omega) hh⟩
def LeAt (g : Nat) (row : Option Nat) (j : Nat) (w w' : World) : Prop := if j = 9 then w.grownBy w' row else w.grownBy w' (some g)
theorem le_two {g : Nat} {row : Option Nat} {j : Nat} {w w' : World} (h : LeAt g row j w w') : w.grownBy w' (some g) ∨ w.grownBy w' row := by
  unfold LeAt at h
  split at h
  · exact .inr h
  · exact .inl h
theorem le_not9 {g : Nat} {row : Option Nat} {j : Nat} {w w' : World} (hj : j ≠ 9) (h : LeAt g row j w w') : w.grownBy w' (some g) := by
  unfold LeAt at h; rw [if_neg hj] at h; exact h
theorem le_mk {g : Nat} {row : Option Nat} {j : Nat} {w w' : World} (hj : j ≠ 9) (h : w.grownBy w' (some g)) : LeAt g row j w w' := by
  unfold LeAt; rw [if_neg hj]; exact h
/-- What stands of the request's box while the region runs. -/
def CRow (B0 : Nat) (w0 : World) (B g m b : Nat) (h : Hd) (v : Value) : (Nat → Prop) → Nat → World → Prop := fun L k W =>
  W.heap[b]? = some (.cells #[.string h.verb, .string h.target, .string h.host, v, .string h.body] 40 (0, 0)) ∧ Drawn w0 W B g (m + k) ∧ (¬ L 9 → W.ownsRow (b + 1) 50 2 v h.fs.length (fcells h.fs)) ∧ B0 ≤ W.heap.size
theorem CRow.keep {w0 W W' : World} {B0 B g m b k i d : Nat} {h : Hd} {v : Value} {L : Nat → Prop} (hC : CRow B0 w0 B g m b h v L k W) (hgb : g < b) (hd : Drawn W W' B g (m + k + d)) (hd1 : d ≤ 1) : CRow B0 w0 B g m b h v (fun j => j = i ∨ L j) (k + 1) W' := by
  obtain ⟨h1, h2, h3, h4⟩ := hC
  exact ⟨block_keep (by omega) h1 hd.2, (h2.trans hd).mono (by omega), fun hn => own_drawn (h3 fun h => hn (.inr h)) (by omega) hd.2, Nat.le_trans h4 hd.2.size⟩
theorem CRow.same {w0 W : World} {B0 B g m b k i : Nat} {h : Hd} {v : Value} {L : Nat → Prop} (hC : CRow B0 w0 B g m b h v L k W) : CRow B0 w0 B g m b h v (fun j => j = i ∨ L j) (k + 1) W :=
  ⟨hC.1, hC.2.1.mono (by omega), fun hn => hC.2.2.1 fun h => hn (.inr h), hC.2.2.2⟩
theorem CRow.alloc {w0 W : World} {B0 B g m b k i : Nat} {h : Hd} {v : Value} {L : Nat → Prop} (hC : CRow B0 w0 B g m b h v L k W) (hgb : g < b) (o : Obj) : CRow B0 w0 B g m b h v (fun j => j = i ∨ L j) (k + 1) (W.alloc o) :=
  hC.keep hgb (d := 0) ((Drawn.refl hC.2.1.1).alloc o) (by omega)
theorem CRow.app {w0 W W' : World} {B0 B g m b k : Nat} {h : Hd} {v : Value} {L : Nat → Prop} (hC : CRow B0 w0 B g m b h v L k W) (hL : ¬ L 9) (hgb : g < b) (hwb : w0.heap.size ≤ b) (hg : W.grownBy W' v.ownBlock) :
    CRow B0 w0 B g m b h v (fun j => j = 9 ∨ L j) (k + 1) W' := by
  obtain ⟨h1, h2, h3, h4⟩ := hC
  have ho := h3 hL
  have hne : ∀ j, j ≤ b → some j ≠ v.ownBlock := fun j hj e => by have := (ho.lt j e.symm).1; omega
  have hb := (Array.getElem?_eq_some_iff.1 h1).1
  refine ⟨(hg.block b hb (hne b (Nat.le_refl _))).trans h1, ?_, fun hn => absurd (.inl rfl) hn, Nat.le_trans h4 hg.size⟩
  refine Drawn.mono (m := m + k) ⟨h2.1.keep fun j hj => hg.block j (by omega) (hne j (by omega)), ⟨hg.os.trans h2.2.os, hg.tape.trans h2.2.tape, hg.output.trans h2.2.output, Nat.le_trans h2.2.size hg.size, fun j hj hn => (hg.block j (Nat.lt_of_lt_of_le hj h2.2.size) (hne j (by omega))).trans (h2.2.block j hj hn)⟩⟩ (by omega)
theorem CRow.hin {w0 W : World} {B0 B g m b k n : Nat} {h : Hd} {v v' : Value} {L : Nat → Prop} (hC : CRow B0 w0 B g m b h v L k W) (ha : RApp b 40 50 h.fs v' W) (hok : FOk h.fs 40) (hv : h.verb.size ≤ 50) (ht : h.target.size ≤ 50) (hh : h.host.size ≤ 50) (hb : h.body.size ≤ 50) (hn : h.fs.length ≤ n) (hgb : g < b) (hwb : w0.heap.size ≤ b) :
    W.cell? ⟨b, 3, none⟩ = some v ∧ W.frozen? ⟨b, 3, none⟩ = false ∧ ∃ s t : ByteArray, HIn w0 (W.setCell ⟨b, 3, none⟩ v') B g (m + k) b (n + 1) { h with fs := h.fs ++ [(s, t)] } v' := by
  obtain ⟨s, t, hs, ht', ho⟩ := ha
  refine ⟨by simp [World.cell?, hC.1], by simp [World.frozen?, hC.1], s, t, heap_setCell_same W b 3 _ _ v' hC.1, ?_, ?_, hv, ht, hh, hb, ?_, drawn_set1 hC.2.1 hgb hwb 3 _, hgb, hwb⟩
  · dsimp only
    rw [fcells_app, List.length_append]
    exact own_setk ho (Nat.lt_succ_self b) _
  · intro f hf
    rcases List.mem_append.1 hf with hf | hf
    · exact hok f hf
    · have : f = (s, t) := by simpa using hf
      subst this; exact ⟨hs, ht'⟩
  · simp; omega
end Go.Proofs.YtncegikmpapldaaGreatDoor

-- from XHdD
/- Walks: the drawing of requests. -/
namespace Go.Proofs.YtncegikmpapldaaGreatDoor
open Go.RowKit

def verbs4 : Array Value := #[.string ⟨#[103, 101, 116]⟩, .string ⟨#[103, 101, 116]⟩, .string ⟨#[112, 117, 116]⟩, .string ⟨#[112, 117, 114, 103, 101]⟩]
def odds4 : Array Value := #[.string ⟨#[104, 111, 115, 116]⟩, .string ⟨#[108, 101, 110, 103, 116, 104]⟩, .string ⟨#[116, 114, 97, 110, 115, 102, 101, 114]⟩, .string ⟨#[98, 97, 100, 32, 110, 97, 109, 101]⟩]
def RHead3 : Value → World → Prop := fun v _ => ∃ s t x : ByteArray, v = .agg #[.string s, .string t, .string x, .slice none 0 0, .string ⟨#[]⟩] ∧ s.size ≤ 50 ∧ t.size ≤ 50 ∧ x.size ≤ 50
def RVarH (g B : Nat) (T : TypeId) : Value → World → Prop := fun v w => ∃ b, v = .pointer (some ⟨b, 0, none⟩) ∧ g < b ∧ B ≤ b ∧ w.heap[b]? = some (.cells #[.string ⟨#[]⟩, .string ⟨#[]⟩, .string ⟨#[]⟩, .slice none 0 0, .string ⟨#[]⟩] T (0, 0))
theorem stay_head3 (g : Nat) : Stay g RHead3 := fun _ _ _ h _ => h
theorem stay_varh (g B : Nat) (T : TypeId) : Stay g (RVarH g B T) := fun _ _ _ ⟨b, h1, h2, h3, h4⟩ hg => ⟨b, h1, h2, h3, block_keep (by omega) h4 hg⟩

theorem own_lower {w : World} {B B' : Nat} {e : TypeId} {size : Nat} {v : Value} {n : Nat} {xs : List Value} (h : w.ownsRow B e size v n xs) (hB : B' ≤ B) : w.ownsRow B' e size v n xs := by
  refine ⟨h.1, ?_⟩
  rcases h.2 with h | ⟨g, cap, cur, hv, hb, rest⟩
  · exact .inl h
  · exact .inr ⟨g, cap, cur, hv, Nat.le_trans hB hb, rest⟩
def DrawnHd (n : Nat) (w : World) (B g m : Nat) (e : Ending) (w' : World) : Prop :=
  ∃ (h : Hd) (v : Value), e = .returned (.agg #[.string h.verb, .string h.target, .string h.host, v, .string h.body]) ∧ w'.ownsRow w.heap.size 50 2 v h.fs.length (fcells h.fs) ∧ FOk h.fs 40 ∧ h.verb.size ≤ 50 ∧ h.target.size ≤ 50 ∧ h.host.size ≤ 50 ∧ h.body.size ≤ 50 ∧ h.fs.length ≤ n ∧ Drawn w w' B g m

set_option maxRecDepth 100000 in
set_option maxHeartbeats 2000000 in
theorem head_any (g B m : Nat) (q : Int) (w : World) (hm : m ≤ 500000) (hq : q ≤ 1000000) (hq0 : 0 ≤ q) (h : RdAt w B g m) :
    Calls Tryz.prog 49 #[.pointer (some ⟨g, 0, none⟩), .int .i64 q] w (DrawnHd 12 w B g (m + 1000)) := by
  have hg := h.lt
  go_enter Tryz.func49, Tryz.ntmps49
  go_wp2_with fail
  obtain ⟨w0, hw0⟩ : ∃ w0, w0 = w.alloc (.cells #[.string ⟨#[]⟩, .string ⟨#[]⟩, .string ⟨#[]⟩, .slice none 0 0, .string ⟨#[]⟩] 40) := ⟨_, rfl⟩
  have h0 : RdAt w0 B g m := by rw [hw0]; exact h.alloc _
  have hs0 : w.heap.size < w0.heap.size := by rw [hw0]; simp
  rw [← hw0]
  refine wp_region_last (by kernel_rfl) 11 (by kernel_rfl) (by kernel_rfl) (by kernel_rfl)
    (fun u => { tmps := #[.pointer (some ⟨g, 0, none⟩), .int .i64 q, undef, undef, .pointer (some ⟨w.heap.size, 0, none⟩), u 10, undef, undef, u 0, u 1, u 2, u 3, u 4, u 5, u 6, u 7, u 8, u 9, undef, undef, undef, undef, undef, undef, undef, undef, undef, undef, undef, undef, undef, undef, undef, undef, undef, undef, undef, undef, undef, undef, undef, undef, undef, undef, undef, undef, undef, undef, undef, undef, undef, undef, undef, undef, undef, undef, undef, undef, undef, undef, undef, undef, undef, undef, undef, undef, undef, undef, undef, undef, undef, undef, undef, undef, undef, undef, undef, undef, undef, undef, undef, undef, undef, undef, undef, undef, undef, undef, undef, undef, undef, undef, undef, undef, undef, undef, undef, undef, undef, undef, undef, undef, undef, undef, undef, undef, undef], defers := [] })
    (CAtK w0 B g m 3)
    (RAt [RLit g 4 verbs4 9, REq (.pointer (some ⟨g, 0, none⟩)), RNum 4, RCell g 50, RStr 50, REq (.pointer (some ⟨g, 0, none⟩)), RStr 50, REq (.pointer (some ⟨g, 0, none⟩)), RStr 50, RHead3, RVarH g w0.heap.size 40])
    (fun w w' => w.grownBy w' (some g)) (fun _ => undef) ⟨(Drawn.refl h0).drew, h0.lt⟩
    (fun i v w w' _ hR hle => stay_at (g := g) (by exact ⟨stay_lit _ _ _ _, stay_eq _ _, stay_num _ _, stay_cell _ _, stay_str _ _, stay_eq _ _, stay_str _ _, stay_eq _ _, stay_str _ _, stay_head3 _, stay_varh _ _ _, trivial⟩) v w w' hR hle) ?_ ?_
  · intro i hi u w1 k hk hC hd
    have hlt := catk_lt hC
    match i, hi with
    | 0, _ =>
      refine wpOp_step rfl (fun K hK => ?_)
      clear hd
      go_simp
      exact hK _ _ ⟨_, rfl, ⟨_, rfl, by omega, heap_alloc_new w1 _⟩, World.grownBy_alloc _ _ _, catk_alloc hC _⟩
    | 1, _ =>
      refine wpOp_step rfl (fun K hK => ?_)
      clear hd
      go_simp
      exact hK _ _ ⟨_, rfl, rfl, World.grownBy.refl _ _, catk_same hC⟩
    | 2, _ =>
      have e1 : u 1 = .pointer (some ⟨g, 0, none⟩) := hd 1 (dep_of (by kernel_rfl))
      refine wpOp_step rfl (fun K hK => ?_)
      clear hd
      go_simp
      refine (pick_lit g 4 4 rfl (by decide) B (m + 3 * k) _ (by omega) (by decide) hC.1.1).mono ?_
      rintro e w2 ⟨r, rfl, hr, -, hd2⟩
      exact hK _ _ ⟨_, by simp [upd, e1], ⟨r, rfl, hr⟩, hd2.2, catk_drawn hC hd2 (by omega)⟩
    | 3, _ =>
      obtain ⟨b, e0, hbg, hb⟩ : RLit g 4 verbs4 9 (u 0) w1 := hd 0 (dep_of (by kernel_rfl))
      obtain ⟨r, e2, hr⟩ : RNum 4 (u 2) w1 := hd 2 (dep_of (by kernel_rfl))
      obtain ⟨s, hs, hk40⟩ := lit_at (K := 50) hb (by decide) (r := r) hr
      have hr6 : (r : Int) < 4 := by omega
      refine wpOp_step rfl (fun K hK => ?_)
      clear hd
      go_simp
      exact hK _ _ ⟨_, by simp [upd, e0, e2], ⟨b, r, s, rfl, hbg, hs, hk40⟩, World.grownBy.refl _ _, catk_same hC⟩
    | 4, _ =>
      obtain ⟨b, r, s, e3, hbg, hs, hk40⟩ : RCell g 50 (u 3) w1 := hd 3 (dep_of (by kernel_rfl))
      refine wpOp_step rfl (fun K hK => ?_)
      clear hd
      go_simp
      exact hK _ _ ⟨_, by simp [upd, e3], ⟨s, rfl, hk40⟩, World.grownBy.refl _ _, catk_same hC⟩
    | 5, _ =>
      refine wpOp_step rfl (fun K hK => ?_)
      clear hd
      go_simp
      exact hK _ _ ⟨_, rfl, rfl, World.grownBy.refl _ _, catk_same hC⟩
    | 6, _ =>
      have e5 : u 5 = .pointer (some ⟨g, 0, none⟩) := hd 5 (dep_of (by kernel_rfl))
      refine wpOp_step rfl (fun K hK => ?_)
      clear hd
      go_simp
      refine (place_any g B (m + 3 * k) _ (by omega) hC.1.1).mono ?_
      rintro e w2 ⟨s, rfl, hs, hd2⟩
      exact hK _ _ ⟨_, by simp [upd, e5], ⟨s, rfl, by omega⟩, hd2.2, catk_drawn hC hd2 (by omega)⟩
    | 7, _ =>
      refine wpOp_step rfl (fun K hK => ?_)
      clear hd
      go_simp
      exact hK _ _ ⟨_, rfl, rfl, World.grownBy.refl _ _, catk_same hC⟩
    | 8, _ =>
      have e7 : u 7 = .pointer (some ⟨g, 0, none⟩) := hd 7 (dep_of (by kernel_rfl))
      refine wpOp_step rfl (fun K hK => ?_)
      clear hd
      go_simp
      refine (hosth_any g B (m + 3 * k) _ (by omega) hC.1.1).mono ?_
      rintro e w2 ⟨s, rfl, hs, hd2⟩
      exact hK _ _ ⟨_, by simp [upd, e7], ⟨s, rfl, by omega⟩, hd2.2, catk_drawn hC hd2 (by omega)⟩
    | 9, _ =>
      obtain ⟨s, e4, hs⟩ : RStr 50 (u 4) w1 := hd 4 (dep_of (by kernel_rfl))
      obtain ⟨t, e6, ht⟩ : RStr 50 (u 6) w1 := hd 6 (dep_of (by kernel_rfl))
      obtain ⟨x, e8, hx⟩ : RStr 50 (u 8) w1 := hd 8 (dep_of (by kernel_rfl))
      refine wpOp_step rfl (fun K hK => ?_)
      clear hd
      go_simp
      exact hK _ _ ⟨_, by simp [upd, e4, e6, e8], ⟨s, t, x, rfl, hs, ht, hx⟩, World.grownBy.refl _ _, catk_same hC⟩
    | 10, _ =>
      refine wpOp_step rfl (fun K hK => ?_)
      clear hd
      go_simp
      exact hK _ _ ⟨_, rfl, ⟨_, rfl, hlt, by have := hC.1.2.size; omega, heap_alloc_new w1 _⟩, World.grownBy_alloc _ _ _, catk_alloc hC _⟩
  · intro u w1 k hk hC hd
    obtain ⟨s, t, x, e9, hs, ht, hx⟩ : RHead3 (u 9) w1 := hd 9 (by decide)
    obtain ⟨b, e10, hgb, hB, hb⟩ : RVarH g w0.heap.size 40 (u 10) w1 := hd 10 (by decide)
    obtain ⟨q0, q1, q2, q3, q4, p0, p1, p2, p3, p4⟩ := five_facts hb
    have hI : HIn w0 (set5 w1 b (.string s) (.string t) (.string x) (.slice none 0 0) (.string ⟨#[]⟩)) B g (m + 33) b 0 ⟨s, t, x, [], ⟨#[]⟩⟩ (.slice none 0 0) :=
      ⟨five_set hb _ _ _ _ _, World.ownsRow_nil _ _ _ _, fun f hf => by simp at hf, hs, ht, hx, Nat.zero_le _, Nat.le_refl _, drawn_set1 (drawn_set1 (drawn_set1 (drawn_set1 (drawn_set1 (hC.1.mono (by omega)) hgb hB 0 _) hgb hB 1 _) hgb hB 2 _) hgb hB 3 _) hgb hB 4 _, hgb, hB⟩
    refine wpOp_step rfl (fun K hK => ?_)
    clear hd
    go_simp
    refine hK _ _ ?_
    clear hK K
    obtain ⟨W1, hW1⟩ : ∃ W1, W1 = set5 w1 b (.string s) (.string t) (.string x) (.slice none 0 0) (.string ⟨#[]⟩) := ⟨_, rfl⟩
    rw [← hW1] at hI
    unfold set5 at hW1
    rw [← hW1]
    clear hW1 q0 q1 q2 q3 q4 p0 p1 p2 p3 p4 e9 e10 hb hC hk w1 hs ht hx
    have hend : ∀ (W : World) (M n : Nat) (h : Hd) (a : Option Addr) (c : Nat), HIn w0 W B g M b n h (.slice a h.fs.length c) → M ≤ m + 1000 → n ≤ 12 →
        W.cell? ⟨w.heap.size, 0, none⟩ = some (.string ⟨#[]⟩) ∧ W.cell? ⟨w.heap.size, 1, none⟩ = some (.string ⟨#[]⟩) ∧ W.cell? ⟨w.heap.size, 2, none⟩ = some (.string ⟨#[]⟩) ∧ W.cell? ⟨w.heap.size, 3, none⟩ = some (.slice none 0 0) ∧ W.cell? ⟨w.heap.size, 4, none⟩ = some (.string ⟨#[]⟩) ∧
        W.frozen? ⟨w.heap.size, 0, none⟩ = false ∧ W.frozen? ⟨w.heap.size, 1, none⟩ = false ∧ W.frozen? ⟨w.heap.size, 2, none⟩ = false ∧ W.frozen? ⟨w.heap.size, 3, none⟩ = false ∧ W.frozen? ⟨w.heap.size, 4, none⟩ = false ∧
        ∃ R, R = set5 W w.heap.size (.string h.verb) (.string h.target) (.string h.host) (.slice a h.fs.length c) (.string h.body) ∧
        R.cell? ⟨w.heap.size, 0, none⟩ = some (.string h.verb) ∧ R.cell? ⟨w.heap.size, 1, none⟩ = some (.string h.target) ∧ R.cell? ⟨w.heap.size, 2, none⟩ = some (.string h.host) ∧ R.cell? ⟨w.heap.size, 3, none⟩ = some (.slice a h.fs.length c) ∧ R.cell? ⟨w.heap.size, 4, none⟩ = some (.string h.body) ∧
        Hid (DrawnHd 12 w B g (m + 1000) (.returned (.agg #[.string h.verb, .string h.target, .string h.host, .slice a h.fs.length c, .string h.body])) R) := fun W M n h a c hh hM hn => by
      have hbw := hh.wb
      have r0 : W.heap[w.heap.size]? = some (.cells #[.string ⟨#[]⟩, .string ⟨#[]⟩, .string ⟨#[]⟩, .slice none 0 0, .string ⟨#[]⟩] 40 (0, 0)) := by
        refine block_keep (by omega) ?_ hh.drawn.2
        rw [hw0]; exact heap_alloc_new w _
      have h1 := five_set r0 (.string h.verb) (.string h.target) (.string h.host) (.slice a h.fs.length c) (.string h.body)
      obtain ⟨y0, y1, y2, y3, y4, z0, z1, z2, z3, z4⟩ := five_facts r0
      obtain ⟨x0, x1, x2, x3, x4, _⟩ := five_facts h1
      refine ⟨y0, y1, y2, y3, y4, z0, z1, z2, z3, z4, _, rfl, x0, x1, x2, x3, x4, Lib.hid ⟨h, _, rfl, ?_, hh.ok, hh.verb, hh.target, hh.host, hh.body, Nat.le_trans hh.many hn, ?_⟩⟩
      · refine own_lower ?_ (show w.heap.size ≤ b + 1 by omega)
        exact own_setk (own_setk (own_setk (own_setk (own_setk hh.own (by omega) _) (by omega) _) (by omega) _) (by omega) _) (by omega) _
      · have hW' : Drawn w W B g M := by have hW := hh.drawn; rw [hw0] at hW; exact hW.of_alloc
        exact (drawn_set1 (drawn_set1 (drawn_set1 (drawn_set1 (drawn_set1 hW' hg (Nat.le_refl _) 0 _) hg (Nat.le_refl _) 1 _) hg (Nat.le_refl _) 2 _) hg (Nat.le_refl _) 3 _) hg (Nat.le_refl _) 4 _).mono hM
    have HE := Lib.hid hend
    clear hend
    generalize (⟨s, t, x, [], ⟨#[]⟩⟩ : Hd) = hd0 at hI
    have hbne : b ≠ w.heap.size := by omega
    have hrd := hI.drawn.1
    go_wp2_with fail
    refine (pick_lit g 4 4 rfl (by decide) B (m + 33) _ (by omega) (by decide) hrd).mono ?_
    rintro e w2 ⟨r, rfl, hr, -, hd2⟩
    have hI2 := hI.keep hd2
    clear hI hd2 hrd
    go_wp2
    have HS := Lib.hid hw0
    clear hw0 h0
    go_loopw [6, 7] (fun kk _ wr => ∃ (j : Nat) (hd : Hd) (v : Value), kk = .int .i64 j ∧ j + hd.fs.length ≤ 3 ∧ HIn w0 wr B g (m + 34 + 61 * hd.fs.length) b 3 hd v) (fun kk _ _ => (intOf kk).toNat)
    case atStart => exact ⟨r, hd0, _, rfl, by have := hI2.many; omega, hI2.mono (by omega) (by omega)⟩
    case round =>
      obtain ⟨j, hd, v, rfl, hj, hI⟩ := hrel
      by_cases hlt : 0 < j
      · obtain ⟨i0, hi, hz0, hz1, hz2⟩ := info_parts Tryz.infoFd
        have hrd := hI.drawn.1
        have hszr := hI.lt
        have hfl : hd.fs.length ≤ 2 := by omega
        go_wp2_with fail
        refine (field_any g B (m + 34 + 61 * hd.fs.length) 99999 _ (by omega) (by omega) (by omega) hrd).mono ?_
        rintro e w3 ⟨s, t, rfl, hs, ht, hd3⟩
        have hI3 := (hI.keep hd3).alloc (.cells #[.string s, .string t] 50)
        have hszw : b < w3.heap.size + 1 := by simpa using hI3.lt
        have hown3 := hI3.own
        obtain ⟨x0, x1, x2, x3, x4, p0, p1, p2, p3, p4⟩ := five_facts hI3.box
        have hI3' := Lib.hid hI3
        clear hI hd3 hI2 hrd x0 x1 x2 x4 p0 p1 p2 p3 p4 hI3
        have hmore : ∀ W' v' (A : Obj), ((w3.alloc (.cells #[.string s, .string t] 50)).alloc A).grownBy W' v.ownBlock → W'.ownsRow (b + 1) 50 2 v' (hd.fs.length + 1) (fcells hd.fs ++ [.string s, .string t]) →
            W'.cell? ⟨b, 3, none⟩ = some v ∧ W'.frozen? ⟨b, 3, none⟩ = false ∧ Hid (HIn w0 (W'.setCell ⟨b, 3, none⟩ v') B g (m + 34 + 61 * (hd.fs ++ [(s, t)]).length) b 3 { hd with fs := hd.fs ++ [(s, t)] } v') := fun W' v' A hg' ho' => by
          have hh := hI3'.out.alloc A
          obtain ⟨k1, k2⟩ := hh.rowbox hg'
          have hk := HIn.setRow (n := 3) hh hs ht hg' ho'
          refine ⟨k1, k2, Lib.hid ⟨hk.box, hk.own, hk.ok, hk.verb, hk.target, hk.host, hk.body, ?_, hk.drawn.mono ?_, hk.gb, hk.wb⟩⟩
          · simp; omega
          · simp; omega
        have HM := Lib.hid hmore
        clear hmore hI3'
        obtain ⟨a, c, rfl⟩ := own_len2 hown3
        go_wp2_with (at_builtin; go_must (refine wpList_append_lies _ rfl _ _ 38 (by rfl) (b + 1) 50 i0 _ 2 32 Tryz.underlying38 hi hz0 hz1 hz2 (by rfl) (by decide) _ hd.fs.length (fcells hd.fs) (by rfl) (hown3.alloc _) ⟨w3.heap.size + 1, 0, none⟩ 1 1 [.string s, .string t] (by rfl) (by rfl) (by simpa using pair_new (w3.alloc (.cells #[.string s, .string t] 50)) s t 50) (by intro x hx; simp at hx; rcases hx with rfl | rfl <;> rfl) (by omega) (by unfold maxLen; omega) (by omega) (by simp; omega) (w3.heap.size + 1 + 1) (by simp) ?_); intro g3 cap w4 ho4 hg4 hat4 hlt4; obtain ⟨y3, p3, HJ⟩ := HM.out _ _ _ hg4 ho4; clear hg4)
        go_roundw
        case rel => exact ⟨j - 1, { hd with fs := hd.fs ++ [(s, t)] }, _, by go_num, by simp; omega, HJ.out⟩
        case measure => simp [intOf]; omega
      · have hj0 : j = 0 := by omega
        subst hj0
        have hI3 := hI.mono (show _ ≤ m + 217 by omega) (Nat.le_refl 3)
        have hrd := hI3.drawn.1
        obtain ⟨x0, x1, x2, x3, x4, p0, p1, p2, p3, p4⟩ := five_facts hI3.box
        have HI3 := Lib.hid hI3
        clear hI hI2 hI3 x1 x2 x3 x4 p1 p2 p3 p4 hj
        go_upto_region 7 with fail
        go_cut [39] (fun s39 wx => ∃ (c : Bool) (hd : Hd) (v : Value), s39 = .bool c ∧ HIn w0 wx B g (m + 218) b 3 hd v)
        case first =>
          obtain ⟨vb, hvb⟩ : ∃ vb, vb = hd.verb := ⟨_, rfl⟩
          rw [← hvb] at x0
          have HV := Lib.hid hvb
          clear hvb
          go_wp2_with fail
          all_goals first
            | (refine (pick_lit g 3 3 rfl (by decide) B (m + 217) _ (by omega) (by decide) (by exact hrd)).mono ?_
               rintro e w4 ⟨r4, rfl, hr4, -, hd4⟩
               go_wp2_with fail
               all_goals (go_meet; exact ⟨_, hd, v, rfl, HI3.out.keep hd4⟩))
            | (go_meet; exact ⟨_, hd, v, rfl, HI3.out.mono (by omega) (Nat.le_refl _)⟩)
        case rest =>
          obtain ⟨c, hd, v, rfl, hI⟩ := hcut
          have HI3 := Lib.hid hI
          have hrd := hI.drawn.1
          obtain ⟨_, _, _, _, x4, _, _, _, _, p4⟩ := five_facts hI.box
          clear hI
          go_upto_if 39 with fail
          go_cut [] (fun wx => ∃ (hd : Hd) (v : Value), HIn w0 wx B g (m + 220) b 3 hd v)
          case first =>
            cases c
            · go_wp2_with fail
              go_meet
              exact ⟨hd, v, HI3.out.mono (by omega) (Nat.le_refl _)⟩
            · go_wp2_with fail
              refine (pick_lit g 3 3 rfl (by decide) B (m + 218) _ (by omega) (by decide) (hrd.alloc _)).mono ?_
              rintro e w7 ⟨r4, rfl, hr4, hr4', hd7⟩
              obtain ⟨x, hx, hxk⟩ := lit_str (K := 50) hd7 hrd.lt (by decide) r4 (by simp; omega)
              have hI7 := HI3.out.keep hd7.of_alloc
              obtain ⟨_, _, _, _, x4, _, _, _, _, p4⟩ := five_facts hI7.box
              have HI7 := Lib.hid ((hI7.setBody (s := x) (by omega)).mono (show _ ≤ m + 220 by omega) (Nat.le_refl _))
              clear hI7 hd7
              go_wp2_with fail
              go_meet
              exact ⟨_, v, HI7.out⟩
          case rest =>
            clear x4 p4 hrd HI3
            obtain ⟨hd, v, hI⟩ := hcut
            have hrd := hI.drawn.1
            have HI3 := Lib.hid hI
            clear hI
            go_wp2_with fail
            refine (odd_any g q B (m + 220) _ (by omega) hq hq0 hrd).mono ?_
            rintro e w5 ⟨od, rfl, hd5⟩
            have hI5 := HI3.out.keep hd5
            clear HI3 hd5 hrd
            cases od
            · obtain ⟨a5, c5, hv⟩ := own_len2 hI5.own
              subst hv
              obtain ⟨y0, y1, y2, y3, y4, z0, z1, z2, z3, z4, R, hR, k0, k1, k2, k3, k4, HX⟩ := HE.out _ _ _ _ _ _ hI5 (by omega) (by omega)
              obtain ⟨b0, b1, b2, b3, b4, _⟩ := five_facts hI5.box
              unfold set5 at hR
              subst hR
              try dsimp only at k0 k1 k2 k3 k4 b0 b1 b2 b3 b4
              have HZ := Lib.hid hI5
              clear hI5
              go_wp2
              exact bodyPost_ret (v := .agg #[.string hd.verb, .string hd.target, .string hd.host, .slice a5 hd.fs.length c5, .string hd.body]) (by simp [results, Tryz.results49, go_sem, k0, k1, k2, k3, k4]) rfl HX.out
            · have hrd := hI5.drawn.1
              have HI5 := Lib.hid hI5
              clear hI5
              go_wp2_with fail
              refine (pick_lit g 7 7 rfl (by decide) B (m + 220 + 1) _ (by omega) (by decide) hrd).mono ?_
              rintro e w6 ⟨r7, rfl, hr7, -, hd6⟩
              have hI6 := HI5.out.keep hd6
              have hrd6 := hI6.drawn.1
              have HI6 := Lib.hid hI6
              clear HI5 hd6 hrd hI6
              have hcase : r7 = 0 ∨ r7 = 1 ∨ r7 = 2 ∨ r7 = 3 ∨ r7 = 4 ∨ 5 ≤ r7 := by omega
              clear hr7
              rcases hcase with rfl | rfl | rfl | rfl | rfl | hr7
              · go_wp2_with fail
                refine (pick_lit g 3 3 rfl (by decide) B (m + 220 + 1 + 1) _ (by omega) (by decide) (hrd6.alloc _)).mono ?_
                rintro e w7 ⟨r4, rfl, hr4, hr4', hd7⟩
                obtain ⟨x, hx, hxk⟩ := lit_str (K := 50) hd7 hrd6.lt (by decide) r4 (by simp; omega)
                have hI7 := HI6.out.keep hd7.of_alloc
                obtain ⟨x0, x1, x2, x3, x4, p0, p1, p2, p3, p4⟩ := five_facts hI7.box
                have hI8 := hI7.setVerb (s := x) (by omega)
                obtain ⟨a5, c5, hv⟩ := own_len2 hI8.own
                subst hv
                obtain ⟨y0, y1, y2, y3, y4, z0, z1, z2, z3, z4, R, hR, k0, k1, k2, k3, k4, HX⟩ := HE.out _ _ _ _ _ _ hI8 (by omega) (by omega)
                obtain ⟨b0, b1, b2, b3, b4, _⟩ := five_facts hI8.box
                unfold set5 at hR
                subst hR
                try dsimp only at k0 k1 k2 k3 k4 b0 b1 b2 b3 b4
                have HZ := Lib.hid hI8
                clear hI8 hI7 hd7 x1 p1 x2 p2 x3 p3 x4 p4
                go_wp2
                exact bodyPost_ret (v := .agg #[.string x, .string hd.target, .string hd.host, .slice a5 hd.fs.length c5, .string hd.body]) (by simp [results, Tryz.results49, go_sem, k0, k1, k2, k3, k4]) rfl HX.out
              · go_wp2_with fail
                refine (raw_any g B (m + 220 + 1 + 1) _ (by omega) hrd6).mono ?_
                rintro e w7 ⟨x, rfl, hxk, hd7⟩
                have hI7 := HI6.out.keep hd7
                obtain ⟨x0, x1, x2, x3, x4, p0, p1, p2, p3, p4⟩ := five_facts hI7.box
                have hI8 := hI7.setTarget (s := x) (by omega)
                obtain ⟨a5, c5, hv⟩ := own_len2 hI8.own
                subst hv
                obtain ⟨y0, y1, y2, y3, y4, z0, z1, z2, z3, z4, R, hR, k0, k1, k2, k3, k4, HX⟩ := HE.out _ _ _ _ _ _ hI8 (by omega) (by omega)
                obtain ⟨b0, b1, b2, b3, b4, _⟩ := five_facts hI8.box
                unfold set5 at hR
                subst hR
                try dsimp only at k0 k1 k2 k3 k4 b0 b1 b2 b3 b4
                have HZ := Lib.hid hI8
                clear hI8 hI7 hd7 x0 p0 x2 p2 x3 p3 x4 p4
                go_wp2
                exact bodyPost_ret (v := .agg #[.string hd.verb, .string x, .string hd.host, .slice a5 hd.fs.length c5, .string hd.body]) (by simp [results, Tryz.results49, go_sem, k0, k1, k2, k3, k4]) rfl HX.out
              · go_wp2_with fail
                refine (pick_lit g 4 4 rfl (by decide) B (m + 220 + 1 + 1) _ (by omega) (by decide) (hrd6.alloc _)).mono ?_
                rintro e w7 ⟨r4, rfl, hr4, hr4', hd7⟩
                obtain ⟨x, hx, hxk⟩ := lit_str (K := 50) hd7 hrd6.lt (by decide) r4 (by simp; omega)
                have hI7 := HI6.out.keep hd7.of_alloc
                obtain ⟨x0, x1, x2, x3, x4, p0, p1, p2, p3, p4⟩ := five_facts hI7.box
                have hI8 := hI7.setHost (s := x) (by omega)
                obtain ⟨a5, c5, hv⟩ := own_len2 hI8.own
                subst hv
                obtain ⟨y0, y1, y2, y3, y4, z0, z1, z2, z3, z4, R, hR, k0, k1, k2, k3, k4, HX⟩ := HE.out _ _ _ _ _ _ hI8 (by omega) (by omega)
                obtain ⟨b0, b1, b2, b3, b4, _⟩ := five_facts hI8.box
                unfold set5 at hR
                subst hR
                try dsimp only at k0 k1 k2 k3 k4 b0 b1 b2 b3 b4
                have HZ := Lib.hid hI8
                clear hI8 hI7 hd7 x0 p0 x1 p1 x3 p3 x4 p4
                go_wp2
                exact bodyPost_ret (v := .agg #[.string hd.verb, .string hd.target, .string x, .slice a5 hd.fs.length c5, .string hd.body]) (by simp [results, Tryz.results49, go_sem, k0, k1, k2, k3, k4]) rfl HX.out
              · go_upto_region 20 with fail
                have hI := HI6.out
                obtain ⟨i0, hi, hz0, hz1, hz2⟩ := info_parts Tryz.infoFd
                have hrow : ∀ r, v.ownBlock = some r → r < w6.heap.size := fun r hr => (hI.own.lt r hr).2
                have hg6 : g < w6.heap.size := hrd6.lt
                refine wp_region_lastL (by kernel_rfl) 11 (by kernel_rfl) (by kernel_rfl) (by kernel_rfl)
                  (fun z => { tmps := #[.pointer (some ⟨g, 0, none⟩), .int .i64 q, undef, undef, .pointer (some ⟨w.heap.size, 0, none⟩), .pointer (some ⟨b, 0, none⟩), .int .i64 ((0 : Nat) : Int), u7, u8, u9, u10, u11, u12, u13, u14, u15, u16, u17, u18, u19, u20, u21, u22, u23, u24, u25, u26, u27, u28, u29, u30, u31, u32, u33, u34, u35, u36, u37, u38, u39, u40, u41, u42, u43, u44, u45, .pointer (some ⟨g, 0, none⟩), .int .i64 q, .bool true, .pointer (some ⟨g, 0, none⟩), .int .i64 ((3 : Nat) : Int), u51, u52, u53, u54, u55, u56, u57, u58, u59, u60, u61, u62, u63, .bool false, .bool false, u66, u67, u68, u69, u70, u71, .bool false, .bool false, u74, u75, u76, .bool false, .bool false, u79, u80, u81, u82, u83, u84, .bool true, .bool true, z 0, z 1, z 2, z 3, z 4, z 5, z 6, z 7, z 8, z 9, z 10, undef, u99, u100, u101, u102, u103, u104, u105, u106], defers := [] })
                  (CRow w6.heap.size w0 B g (m + 220 + 1 + 1) b hd v)
                  (RAt [REq (.pointer (some ⟨b, 3, none⟩)), REq v, RLitF w6.heap.size 4 odds4 9, REq (.pointer (some ⟨g, 0, none⟩)), RNum 4, RCellF w6.heap.size 40, RStr 40, RPair 40, RBoxF w6.heap.size 40 50, RApp b 40 50 hd.fs, REq (.pointer (some ⟨b, 3, none⟩))])
                  (LeAt g v.ownBlock) (fun i => [u87, u88, u89, u90, u91, u92, u93, u94, u95, u96, u97].getD i undef) ⟨hI.box, hI.drawn.drew, fun _ => hI.own, Nat.le_refl _⟩ ?_ ?_ ?_
                · intro i j x W W' hi _ hij hR hle
                  match i, hi with
                  | 0, _ => exact stay2_eq g v.ownBlock _ x W W' hR (le_two hle)
                  | 1, _ => exact stay2_eq g v.ownBlock _ x W W' hR (le_two hle)
                  | 2, _ => exact stay2_lit hg6 hrow x W W' hR (le_two hle)
                  | 3, _ => exact stay2_eq g v.ownBlock _ x W W' hR (le_two hle)
                  | 4, _ => exact stay2_num g 4 v.ownBlock x W W' hR (le_two hle)
                  | 5, _ => exact stay2_cell hg6 hrow x W W' hR (le_two hle)
                  | 6, _ => exact stay2_str g 40 v.ownBlock x W W' hR (le_two hle)
                  | 7, _ => exact stay2_pair g 40 v.ownBlock x W W' hR (le_two hle)
                  | 8, _ => exact stay2_box hg6 hrow x W W' hR (le_two hle)
                  | 9, _ => exact stay_app hgb x W W' hR (le_not9 (Ne.symm hij) hle)
                  | 10, _ => exact stay2_eq g v.ownBlock _ x W W' hR (le_two hle)
                · intro i hi' L z W k hk hL hC hd'
                  have hsz : w6.heap.size ≤ W.heap.size := hC.2.2.2
                  match i, hi' with
                  | 0, _ =>
                    refine wpOp_step rfl (fun K hK => ?_)
                    clear hd'
                    go_simp
                    exact hK _ _ ⟨_, rfl, rfl, le_mk (by decide) (World.grownBy.refl _ _), hC.same⟩
                  | 1, _ =>
                    have e0 : z 0 = .pointer (some ⟨b, 3, none⟩) := hd' 0 (dep_of (by kernel_rfl))
                    have x3 : W.cell? ⟨b, 3, none⟩ = some v := by simp [World.cell?, hC.1]
                    refine wpOp_step rfl (fun K hK => ?_)
                    clear hd'
                    go_simp
                    exact hK _ _ ⟨_, by simp [upd, e0], rfl, le_mk (by decide) (World.grownBy.refl _ _), hC.same⟩
                  | 2, _ =>
                    refine wpOp_step rfl (fun K hK => ?_)
                    clear hd'
                    go_simp
                    exact hK _ _ ⟨_, rfl, ⟨_, rfl, hsz, heap_alloc_new W _⟩, le_mk (by decide) (World.grownBy_alloc _ _ _), hC.alloc hgb _⟩
                  | 3, _ =>
                    refine wpOp_step rfl (fun K hK => ?_)
                    clear hd'
                    go_simp
                    exact hK _ _ ⟨_, rfl, rfl, le_mk (by decide) (World.grownBy.refl _ _), hC.same⟩
                  | 4, _ =>
                    have e3 : z 3 = .pointer (some ⟨g, 0, none⟩) := hd' 3 (dep_of (by kernel_rfl))
                    refine wpOp_step rfl (fun K hK => ?_)
                    clear hd'
                    go_simp
                    refine (pick_lit g 4 4 rfl (by decide) B (m + 220 + 1 + 1 + k) _ (by omega) (by decide) hC.2.1.1).mono ?_
                    rintro e w7 ⟨r, rfl, hr, -, hd2⟩
                    exact hK _ _ ⟨_, by simp [upd, e3], ⟨r, rfl, hr⟩, le_mk (by decide) hd2.2, hC.keep hgb (d := 1) hd2 (by omega)⟩
                  | 5, _ =>
                    obtain ⟨c, e2, hcB, hcb⟩ : RLitF w6.heap.size 4 odds4 9 (z 2) W := hd' 2 (dep_of (by kernel_rfl))
                    obtain ⟨r, e4, hr⟩ : RNum 4 (z 4) W := hd' 4 (dep_of (by kernel_rfl))
                    obtain ⟨s, hs, hk40⟩ := lit_at (K := 40) hcb (by decide) (r := r) hr
                    have hr6 : (r : Int) < 4 := by omega
                    refine wpOp_step rfl (fun K hK => ?_)
                    clear hd'
                    go_simp
                    exact hK _ _ ⟨_, by simp [upd, e2, e4], ⟨c, r, s, rfl, hcB, hs, hk40⟩, le_mk (by decide) (World.grownBy.refl _ _), hC.same⟩
                  | 6, _ =>
                    obtain ⟨c, r, s, e5, hcB, hs, hk40⟩ : RCellF w6.heap.size 40 (z 5) W := hd' 5 (dep_of (by kernel_rfl))
                    refine wpOp_step rfl (fun K hK => ?_)
                    clear hd'
                    go_simp
                    exact hK _ _ ⟨_, by simp [upd, e5], ⟨s, rfl, hk40⟩, le_mk (by decide) (World.grownBy.refl _ _), hC.same⟩
                  | 7, _ =>
                    obtain ⟨s, e6, hs⟩ : RStr 40 (z 6) W := hd' 6 (dep_of (by kernel_rfl))
                    refine wpOp_step rfl (fun K hK => ?_)
                    clear hd'
                    go_simp
                    exact hK _ _ ⟨_, by simp [upd, e6], ⟨s, ⟨#[]⟩, rfl, hs, by decide⟩, le_mk (by decide) (World.grownBy.refl _ _), hC.same⟩
                  | 8, _ =>
                    obtain ⟨s, t, e7, hs, ht⟩ : RPair 40 (z 7) W := hd' 7 (dep_of (by kernel_rfl))
                    refine wpOp_step rfl (fun K hK => ?_)
                    clear hd'
                    go_simp
                    exact hK _ _ ⟨_, by simp [upd, e7], ⟨_, s, t, rfl, hsz, heap_alloc_new W _, hs, ht⟩, le_mk (by decide) (World.grownBy_alloc _ _ _), hC.alloc hgb _⟩
                  | 9, _ =>
                    have e1 : z 1 = v := hd' 1 (dep_of (by kernel_rfl))
                    obtain ⟨c, s, t, e8, hcB, hcb, hs, ht⟩ : RBoxF w6.heap.size 40 50 (z 8) W := hd' 8 (dep_of (by kernel_rfl))
                    have hown := hC.2.2.1 hL
                    have hbW := (Array.getElem?_eq_some_iff.1 hC.1).1
                    have hmany := hI.many
                    refine wpOp_step rfl (fun K hK => ?_)
                    clear hd'
                    refine wp_append_lies _ (.tmp 88) (.tmp 95) 38 (by rfl) (b + 1) 50 i0 _ 2 32 Tryz.underlying38 hi hz0 hz1 hz2 (by rfl) (by decide) v hd.fs.length (fcells hd.fs) (by exact e1) hown ⟨c, 0, none⟩ 1 1 [.string s, .string t] (by exact e8) (by rfl) (World.news_of_block hcb) (by intro x hx; simp at hx; rcases hx with rfl | rfl <;> rfl) (by omega) (by unfold maxLen; omega) (by omega) (by omega) W.heap.size rfl ?_
                    intro g3 cap w7 ho7 hg7 _ _
                    refine hK _ _ ⟨_, rfl, ⟨s, t, hs, ht, ho7⟩, ?_, ?_⟩
                    · unfold LeAt; rw [if_pos rfl]; exact hg7
                    · exact hC.app hL hgb hB hg7
                  | 10, _ =>
                    refine wpOp_step rfl (fun K hK => ?_)
                    clear hd'
                    go_simp
                    exact hK _ _ ⟨_, rfl, rfl, le_mk (by decide) (World.grownBy.refl _ _), hC.same⟩
                · intro L z W k hk hC hd'
                  have ha : RApp b 40 50 hd.fs (z 9) W := hd' 9 (by decide)
                  have e10 : z 10 = .pointer (some ⟨b, 3, none⟩) := hd' 10 (by decide)
                  obtain ⟨x3, p3, s, t, hI8⟩ := CRow.hin (n := 3) hC ha hI.ok hI.verb hI.target hI.host hI.body hI.many hgb hB
                  obtain ⟨v', e9⟩ : ∃ x, z 9 = x := ⟨_, rfl⟩
                  rw [e9] at hI8
                  obtain ⟨h5, hh5⟩ : ∃ h5 : Hd, h5 = { hd with fs := hd.fs ++ [(s, t)] } := ⟨_, rfl⟩
                  rw [← hh5] at hI8
                  clear hh5
                  clear ha hC hd' hI
                  obtain ⟨a5, c5, hv⟩ := own_len2 hI8.own
                  subst hv
                  obtain ⟨y0, y1, y2, y3, y4, z0, z1, z2, z3, z4, R, hR, k0, k1, k2, k3, k4, HX⟩ := HE.out _ _ _ _ _ _ hI8 (by omega) (by omega)
                  obtain ⟨b0, b1, b2, b3, b4, _⟩ := five_facts hI8.box
                  unfold set5 at hR
                  subst hR
                  clear hI8 hrow hi hz0 hz1 hz2 hk HI6
                  refine wpOp_step rfl (fun K hK => ?_)
                  go_simp
                  refine hK _ _ ?_
                  clear hK K
                  go_wp2
                  exact bodyPost_ret (v := .agg #[.string h5.verb, .string h5.target, .string h5.host, .slice a5 h5.fs.length c5, .string h5.body]) (by simp [results, Tryz.results49, go_sem, k0, k1, k2, k3, k4]) rfl HX.out
              · go_wp2_with fail
                refine (pick_lit g 3 3 rfl (by decide) B (m + 220 + 1 + 1) _ (by omega) (by decide) (hrd6.alloc _)).mono ?_
                rintro e w7 ⟨r4, rfl, hr4, hr4', hd7⟩
                obtain ⟨x, hx, hxk⟩ := lit_str (K := 50) hd7 hrd6.lt (by decide) r4 (by simp; omega)
                have hI7 := HI6.out.keep hd7.of_alloc
                obtain ⟨x0, x1, x2, x3, x4, p0, p1, p2, p3, p4⟩ := five_facts hI7.box
                have hI8 := hI7.setBody (s := x) (by omega)
                obtain ⟨a5, c5, hv⟩ := own_len2 hI8.own
                subst hv
                obtain ⟨y0, y1, y2, y3, y4, z0, z1, z2, z3, z4, R, hR, k0, k1, k2, k3, k4, HX⟩ := HE.out _ _ _ _ _ _ hI8 (by omega) (by omega)
                obtain ⟨b0, b1, b2, b3, b4, _⟩ := five_facts hI8.box
                unfold set5 at hR
                subst hR
                try dsimp only at k0 k1 k2 k3 k4 b0 b1 b2 b3 b4
                have HZ := Lib.hid hI8
                clear hI8 hI7 hd7 x0 p0 x1 p1 x2 p2 x3 p3
                go_wp2
                exact bodyPost_ret (v := .agg #[.string hd.verb, .string hd.target, .string hd.host, .slice a5 hd.fs.length c5, .string x]) (by simp [results, Tryz.results49, go_sem, k0, k1, k2, k3, k4]) rfl HX.out
              · have n0 : ((r7 : Int) == 0) = false := by simp; omega
                have n1 : ((r7 : Int) == 1) = false := by simp; omega
                have n2 : ((r7 : Int) == 2) = false := by simp; omega
                have n3 : ((r7 : Int) == 3) = false := by simp; omega
                have n4 : ((r7 : Int) == 4) = false := by simp; omega
                clear hr7
                go_wp2_with fail
                go_loopw [] (fun wr => ∃ (h5 : Hd) (v5 : Value), h5.fs.length ≤ 9 ∧ HIn w0 wr B g (m + 222 + 7 * h5.fs.length) b 9 h5 v5) (fun wr => match wr.cell? ⟨b, 3, none⟩ with | some (.slice _ n _) => 20 - n | _ => 0)
                case atStart => exact ⟨hd, v, by have := HI6.out.many; omega, HI6.out.mono (by omega) (by omega)⟩
                case round =>
                  obtain ⟨h5, v5, hl5, hI⟩ := hrel
                  obtain ⟨a5, c5, rfl⟩ := own_len2 hI.own
                  have HWR := Lib.hid (show wr.cell? ⟨b, 3, none⟩ = some (.slice a5 h5.fs.length c5) by simp [World.cell?, hI.box])
                  clear HI6 hrd6 n0 n1 n2 n3 n4
                  go_upto_region 11 with fail
                  refine wp_region_last (by kernel_rfl) 6 (by kernel_rfl) (by kernel_rfl) (by kernel_rfl)
                    (fun z => { tmps := #[.pointer (some ⟨g, 0, none⟩), .int .i64 q, undef, undef, .pointer (some ⟨w.heap.size, 0, none⟩), .pointer (some ⟨b, 0, none⟩), .int .i64 ((0 : Nat) : Int), u7, u8, u9, u10, u11, u12, u13, u14, u15, u16, u17, u18, u19, u20, u21, u22, u23, u24, u25, u26, u27, u28, u29, u30, u31, u32, u33, u34, u35, u36, u37, u38, u39, u40, u41, u42, u43, u44, u45, .pointer (some ⟨g, 0, none⟩), .int .i64 q, .bool true, .pointer (some ⟨g, 0, none⟩), .int .i64 (r7 : Int), z 0, z 1, z 2, z 3, z 4, z 5, u57, u58, u59, u60, u61, u62, u63, .bool false, .bool false, u66, u67, u68, u69, u70, u71, .bool false, .bool false, u74, u75, u76, .bool false, .bool false, u79, u80, u81, u82, u83, u84, .bool false, .bool false, u87, u88, u89, u90, u91, u92, u93, u94, u95, u96, u97, .bool false, .bool false, u100, u101, u102, u103, u104, u105, u106], defers := [] })
                    (fun k W => HIn w0 W B g (m + 222 + 7 * h5.fs.length + k) b 9 h5 (.slice a5 h5.fs.length c5))
                    (RAt [REq (.pointer (some ⟨b, 3, none⟩)), REq (.slice a5 h5.fs.length c5), REq (.int .i64 (h5.fs.length : Nat)), REq (.pointer (some ⟨g, 0, none⟩)), RNum 3, RSub 3 8])
                    (fun W W' => W.grownBy W' (some g)) (fun i => [u51, u52, u53, u54, u55, u56].getD i undef) (hI.keep ((Drawn.refl hI.drawn.1).drew))
                    (fun i x W W' _ hR hle => stay_at (g := g) (by exact ⟨stay_eq _ _, stay_eq _ _, stay_eq _ _, stay_eq _ _, stay_num _ _, stay_sub _ _ _, trivial⟩) x W W' hR hle) ?_ ?_
                  · intro i hi' z W k hk hC hd'
                    match i, hi' with
                    | 0, _ =>
                      refine wpOp_step rfl (fun K hK => ?_)
                      clear hd'
                      go_simp
                      exact hK _ _ ⟨_, rfl, rfl, World.grownBy.refl _ _, hC.mono (by omega) (Nat.le_refl _)⟩
                    | 1, _ =>
                      have e0 : z 0 = .pointer (some ⟨b, 3, none⟩) := hd' 0 (dep_of (by kernel_rfl))
                      have x3 : W.cell? ⟨b, 3, none⟩ = some (.slice a5 h5.fs.length c5) := by simp [World.cell?, hC.box]
                      refine wpOp_step rfl (fun K hK => ?_)
                      clear hd'
                      go_simp
                      exact hK _ _ ⟨_, by simp [upd, e0], rfl, World.grownBy.refl _ _, hC.mono (by omega) (Nat.le_refl _)⟩
                    | 2, _ =>
                      have e1 : z 1 = .slice a5 h5.fs.length c5 := hd' 1 (dep_of (by kernel_rfl))
                      refine wpOp_step rfl (fun K hK => ?_)
                      clear hd'
                      go_simp
                      exact hK _ _ ⟨_, by simp [upd, e1], rfl, World.grownBy.refl _ _, hC.mono (by omega) (Nat.le_refl _)⟩
                    | 3, _ =>
                      refine wpOp_step rfl (fun K hK => ?_)
                      clear hd'
                      go_simp
                      exact hK _ _ ⟨_, rfl, rfl, World.grownBy.refl _ _, hC.mono (by omega) (Nat.le_refl _)⟩
                    | 4, _ =>
                      have e3 : z 3 = .pointer (some ⟨g, 0, none⟩) := hd' 3 (dep_of (by kernel_rfl))
                      refine wpOp_step rfl (fun K hK => ?_)
                      clear hd'
                      go_simp
                      refine (pick_lit g 3 3 rfl (by decide) B (m + 222 + 7 * h5.fs.length + k) _ (by omega) (by decide) hC.drawn.1).mono ?_
                      rintro e w7 ⟨r, rfl, hr, -, hd2⟩
                      exact hK _ _ ⟨_, by simp [upd, e3], ⟨r, rfl, hr⟩, hd2.2, (hC.keep hd2).mono (by omega) (Nat.le_refl _)⟩
                    | 5, _ =>
                      obtain ⟨r, e4, hr⟩ : RNum 3 (z 4) W := hd' 4 (dep_of (by kernel_rfl))
                      refine wpOp_step rfl (fun K hK => ?_)
                      clear hd'
                      go_simp
                      rw [show IntKind.i64.wrap (8 - (r : Int)) = 8 - (r : Int) from IntWalk.i64_in _ (by omega)]
                      exact hK _ _ ⟨_, by simp [upd, e4], ⟨r, rfl, hr⟩, World.grownBy.refl _ _, hC.mono (by omega) (Nat.le_refl _)⟩
                  · intro z W k hk hC hd'
                    have e2 : z 2 = .int .i64 (h5.fs.length : Nat) := hd' 2 (by decide)
                    obtain ⟨r, e5, hr⟩ : RSub 3 8 (z 5) W := hd' 5 (by decide)
                    have hI7 := hC.mono (show _ ≤ m + 222 + 7 * h5.fs.length + 6 by omega) (Nat.le_refl 9)
                    clear hd' hC hI
                    by_cases hle : (h5.fs.length : Int) ≤ 8 - (r : Int)
                    · have hfl : h5.fs.length ≤ 8 := by omega
                      obtain ⟨lb, hlb⟩ : ∃ lb : ByteArray, lb = ⟨#[108, 111, 110, 103, 101, 115, 116, 110, 97, 109, 101, 49]⟩ := ⟨_, rfl⟩
                      obtain ⟨tb, htb⟩ : ∃ tb : ByteArray, tb = ⟨#[116, 104, 105, 114, 116, 121, 45, 98, 121, 116, 101, 115, 45, 101, 120, 97, 99, 116, 108, 121, 45, 48, 49, 50, 51, 52, 53, 54, 55, 56]⟩ := ⟨_, rfl⟩
                      have hlb1 : lb.size ≤ 40 := by subst hlb; decide
                      have htb1 : tb.size ≤ 40 := by subst htb; decide
                      have hmore : ∀ W' v', (W.alloc (.cells #[.string lb, .string tb] 50)).grownBy W' (Value.slice a5 h5.fs.length c5).ownBlock → W'.ownsRow (b + 1) 50 2 v' (h5.fs.length + 1) (fcells h5.fs ++ [.string lb, .string tb]) →
                          W'.cell? ⟨b, 3, none⟩ = some (.slice a5 h5.fs.length c5) ∧ W'.frozen? ⟨b, 3, none⟩ = false ∧ Hid (HIn w0 (W'.setCell ⟨b, 3, none⟩ v') B g (m + 222 + 7 * (h5.fs ++ [(lb, tb)]).length) b 9 { h5 with fs := h5.fs ++ [(lb, tb)] } v') := fun W' v' hg' ho' => by
                        have hh := hI7.alloc (.cells #[.string lb, .string tb] 50)
                        obtain ⟨k1, k2⟩ := hh.rowbox hg'
                        have hk := HIn.setRow (n := 9) hh hlb1 htb1 hg' ho'
                        refine ⟨k1, k2, Lib.hid ⟨hk.box, hk.own, hk.ok, hk.verb, hk.target, hk.host, hk.body, ?_, hk.drawn.mono ?_, hk.gb, hk.wb⟩⟩
                        · simp; omega
                        · simp; omega
                      have HM := Lib.hid hmore
                      have hown := hI7.own
                      have hszw : b < W.heap.size + 1 := by have := hI7.lt; omega
                      have x3 : W.cell? ⟨b, 3, none⟩ = some (.slice a5 h5.fs.length c5) := by simp [World.cell?, hI7.box]
                      subst hlb htb
                      clear hmore hI7
                      obtain ⟨i0, hi, hz0, hz1, hz2⟩ := info_parts Tryz.infoFd
                      refine wpOp_step rfl (fun K hK => ?_)
                      go_simp
                      refine hK _ _ ?_
                      clear hK K
                      go_wp2_with (at_builtin; go_must (refine wpList_append_lies _ rfl _ _ 38 (by rfl) (b + 1) 50 i0 _ 2 32 Tryz.underlying38 hi hz0 hz1 hz2 (by rfl) (by decide) _ h5.fs.length (fcells h5.fs) (by rfl) (hown.alloc _) ⟨W.heap.size, 0, none⟩ 1 1 [.string ⟨#[108, 111, 110, 103, 101, 115, 116, 110, 97, 109, 101, 49]⟩, .string ⟨#[116, 104, 105, 114, 116, 121, 45, 98, 121, 116, 101, 115, 45, 101, 120, 97, 99, 116, 108, 121, 45, 48, 49, 50, 51, 52, 53, 54, 55, 56]⟩] (by rfl) (by rfl) (pair_new W _ _ 50) (by intro x hx; simp at hx; rcases hx with rfl | rfl <;> rfl) (by omega) (by unfold maxLen; omega) (by omega) (by simp; omega) (W.heap.size + 1) (by simp) ?_); intro g3 cap w4 ho4 hg4 hat4 hlt4; obtain ⟨y3, p3, HJ⟩ := HM.out _ _ hg4 ho4; clear hg4)
                      go_roundw
                      case rel => exact ⟨{ h5 with fs := h5.fs ++ [(⟨#[108, 111, 110, 103, 101, 115, 116, 110, 97, 109, 101, 49]⟩, ⟨#[116, 104, 105, 114, 116, 121, 45, 98, 121, 116, 101, 115, 45, 101, 120, 97, 99, 116, 108, 121, 45, 48, 49, 50, 51, 52, 53, 54, 55, 56]⟩)] }, _, by simp; omega, HJ.out⟩
                      case measure =>
                        obtain ⟨_, _, _, q3, _⟩ := five_facts HJ.out.box
                        rw [q3]
                        have hwm : wr.cell? ⟨b, 3, none⟩ = some (.slice a5 h5.fs.length c5) := HWR.out
                        rw [hwm]
                        dsimp only
                        omega
                    · have hI8 := hI7.mono (Nat.le_refl _) (Nat.le_refl 9)
                      obtain ⟨y0, y1, y2, y3, y4, z0, z1, z2, z3, z4, R, hR, k0, k1, k2, k3, k4, HX⟩ := HE.out _ _ _ _ _ _ hI8 (by omega) (by omega)
                      obtain ⟨b0, b1, b2, b3, b4, _⟩ := five_facts hI8.box
                      unfold set5 at hR
                      subst hR
                      clear hI7 hI8
                      refine wpOp_step rfl (fun K hK => ?_)
                      go_simp
                      refine hK _ _ ?_
                      clear hK K
                      go_wp2
                      exact bodyPost_ret (v := .agg #[.string h5.verb, .string h5.target, .string h5.host, .slice a5 h5.fs.length c5, .string h5.body]) (by simp [results, Tryz.results49, go_sem, k0, k1, k2, k3, k4]) rfl HX.out
end Go.Proofs.YtncegikmpapldaaGreatDoor


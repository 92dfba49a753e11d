import Derived.Test.YtiepobifbkleaaaGreatDoorGDc
import Derived.Test.YtiepobifbkleaaaGreatDoorGDh
import Derived.Test.YtiepobifbkleaaaGreatDoorGKy
import Derived.Test.YtiepobifbkleaaaGreatDoorGdOk
import Derived.Test.YtiepobifbkleaaaGreatDoorGhx
import Derived.Test.YtiepobifbkleaaaGreatDoorGKyP2
import Derived.Test.YtiepobifbkleaaaGreatDoorKyQ
import Derived.Test.YtiepobifbkleaaaGreatDoorLaidN
-- from XKyD
/- Walks: what the laws on keys draw. -/
namespace Go.Proofs.YtiepobifbkleaaaGreatDoor
open Go.RowKit

theorem hrow_formK {g : Nat} {w : World} {v : Value} {hs : List Hs} (h : HRowA g w v hs) : ∃ a c, v = .slice a hs.length c := by
  obtain ⟨a, c, rfl, _⟩ := h
  exact ⟨a, c, rfl⟩
theorem HRowA.setH {g : Nat} {w : World} {v : Value} {hs : List Hs} (h : HRowA g w v hs) {b : Nat} {ds : Array Value} {fr : Nat × Nat} (hb : w.heap[b]? = some (.cells ds 40 fr)) (j : Nat) (x : Value) : HRowA g (w.setCell ⟨b, j, none⟩ x) v hs := by
  obtain ⟨a, c, rfl, h1, h2, h3⟩ := h
  refine ⟨a, c, rfl, h1, h2, fun i y hj => ?_⟩
  obtain ⟨r, u, cs, k1, k2, k3, k4, k5, k6⟩ := h3 i y hj
  exact ⟨r, u, cs, k1, k2, (heap_setCell_other w ⟨b, j, none⟩ r _ (other_block k3 hb (by decide))).trans k3, k4, k5.set hb (by decide) j x, k6⟩
theorem HRowA.set5 {g : Nat} {w : World} {v : Value} {hs : List Hs} (h : HRowA g w v hs) {b : Nat} {x0 x1 x2 x3 x4 : Value} (hb : w.heap[b]? = some (.cells #[x0, x1, x2, x3, x4] 40 (0, 0))) (a0 a1 a2 a3 a4 : Value) : HRowA g (set5 w b a0 a1 a2 a3 a4) v hs := by
  have h1 := heap_setCell_same w b 0 _ _ a0 hb
  have h2 := heap_setCell_same _ b 1 _ _ a1 h1
  have h3 := heap_setCell_same _ b 2 _ _ a2 h2
  have h4 := heap_setCell_same _ b 3 _ _ a3 h3
  exact ((((h.setH hb 0 a0).setH h1 1 a1).setH h2 2 a2).setH h3 3 a3).setH h4 4 a4
/-- Two results told, in whatever order. -/
theorem two_told {g r : Nat} {W : World} {hs : List Hs} {a' : Option Addr} {c' : Nat} {hd : Hd} {a2 : Option Addr} {c2 B : Nat} {w : World}
    (r0 : W.heap[r]? = some (.cells #[.slice none 0 0] 25 (0, 0))) (r1 : W.heap[r + 1]? = some (.cells #[.string ⟨#[]⟩, .string ⟨#[]⟩, .string ⟨#[]⟩, .slice none 0 0, .string ⟨#[]⟩] 40 (0, 0)))
    (hrow : HRowA g W (.slice a' hs.length c') hs) (ho : W.ownsRow B 50 2 (.slice a2 hd.fs.length c2) hd.fs.length (fcells hd.fs)) (hrB : r + 1 < B) (hb : Below w.heap.size w W) (hr : w.heap.size ≤ r) :
    ∀ W', (W' = set5 (W.setCell ⟨r, 0, none⟩ (.slice a' hs.length c')) (r + 1) (.string hd.verb) (.string hd.target) (.string hd.host) (.slice a2 hd.fs.length c2) (.string hd.body) ∨ W' = (set5 W (r + 1) (.string hd.verb) (.string hd.target) (.string hd.host) (.slice a2 hd.fs.length c2) (.string hd.body)).setCell ⟨r, 0, none⟩ (.slice a' hs.length c')) →
      W'.heap[r]? = some (.cells #[.slice a' hs.length c'] 25 (0, 0)) ∧ W'.heap[r + 1]? = some (.cells #[.string hd.verb, .string hd.target, .string hd.host, .slice a2 hd.fs.length c2, .string hd.body] 40 (0, 0)) ∧ HRow W' (.slice a' hs.length c') hs ∧ FRow W' (.slice a2 hd.fs.length c2) hd.fs ∧ Below w.heap.size w W' := by
  have q0 := heap_setCell_same W r 0 _ _ (.slice a' hs.length c') r0
  have q1 := five_set r1 (.string hd.verb) (.string hd.target) (.string hd.host) (.slice a2 hd.fs.length c2) (.string hd.body)
  have e1 : (W.setCell ⟨r, 0, none⟩ (.slice a' hs.length c')).heap[r + 1]? = some (.cells #[.string ⟨#[]⟩, .string ⟨#[]⟩, .string ⟨#[]⟩, .slice none 0 0, .string ⟨#[]⟩] 40 (0, 0)) := (heap_setCell_other W ⟨r, 0, none⟩ (r + 1) _ (by simp)).trans r1
  have e0 : (set5 W (r + 1) (.string hd.verb) (.string hd.target) (.string hd.host) (.slice a2 hd.fs.length c2) (.string hd.body)).heap[r]? = some (.cells #[.slice none 0 0] 25 (0, 0)) := (set5_other (by omega)).trans r0
  have hB1 : r < B := by omega
  rintro W' (rfl | rfl)
  · refine ⟨(set5_other (by omega)).trans q0, five_set e1 _ _ _ _ _, ((hrow.set r0 0 _).set5 e1 _ _ _ _ _).row, ?_, ?_⟩
    · refine frow_own (B := B) (T := 50) (by omega) ?_
      unfold set5
      exact own_setk (own_setk (own_setk (own_setk (own_setk (own_setk ho hB1 _) hrB _) hrB _) hrB _) hrB _) hrB _
    · exact (hb.setCell (p := ⟨r, 0, none⟩) hr _).grown (grown_set5 _ _ _ _ _ _ _) (hb.setCell (p := ⟨r, 0, none⟩) hr _).size (fun k hk => by cases hk; omega)
  · refine ⟨heap_setCell_same _ r 0 _ _ _ e0, (heap_setCell_other _ ⟨r, 0, none⟩ (r + 1) _ (by simp)).trans q1, ((hrow.set5 r1 _ _ _ _ _).set e0 0 _).row, ?_, ?_⟩
    · refine frow_own (B := B) (T := 50) (by omega) ?_
      unfold set5
      exact own_setk (own_setk (own_setk (own_setk (own_setk (own_setk ho hrB _) hrB _) hrB _) hrB _) hrB _) hB1 _
    · exact (hb.grown (grown_set5 _ _ _ _ _ _ _) hb.size (fun k hk => by cases hk; omega)).setCell (p := ⟨r, 0, none⟩) hr _
end Go.Proofs.YtiepobifbkleaaaGreatDoor

-- from XKyDp
/- Walks: what the laws on requests and keys draw. -/
namespace Go.Proofs.YtiepobifbkleaaaGreatDoor
open Go.RowKit

/-- Houses and a request, drawn. -/
def DrawnCH (w : World) (e : Ending) (w' : World) : Prop :=
  ∃ (hs : List Hs) (h : Hd) (a : Option Addr) (c : Nat) (a2 : Option Addr) (c2 : Nat), e = .returned (.tuple #[.agg #[.slice a hs.length c], .agg #[.string h.verb, .string h.target, .string h.host, .slice a2 h.fs.length c2, .string h.body]]) ∧ HRow w' (.slice a hs.length c) hs ∧ (∀ x ∈ hs, HSm3 x) ∧ hs.length ≤ 5 ∧ FRow w' (.slice a2 h.fs.length c2) h.fs ∧ FOk h.fs 40 ∧ h.verb.size ≤ 50 ∧ h.target.size ≤ 50 ∧ h.host.size ≤ 50 ∧ h.body.size ≤ 50 ∧ h.fs.length ≤ 12 ∧ Below w.heap.size w w'
theorem DrawnCH.drew {w w' : World} {e : Ending} (h : DrawnCH w e w') : DrawnCH w e w'.drew := by
  obtain ⟨hs, h, a, c, a2, c2, h1, h2, h3, h4, h5, h6⟩ := h
  have hd : Below w'.heap.size w' w'.drew := (Below.refl _ _).drew
  exact ⟨hs, h, a, c, a2, c2, h1, h2.below (Nat.le_refl _) hd, h3, h4, h5.below (Nat.le_refl _) hd, h6.1, h6.2.1, h6.2.2.1, h6.2.2.2.1, h6.2.2.2.2.1, h6.2.2.2.2.2.1, h6.2.2.2.2.2.2.drew⟩

set_option maxRecDepth 100000 in
set_option maxHeartbeats 3200000 in
theorem draw_putask (a : Option Addr) (len cap : Nat) (zs : List Int) (w : World) (h : IsRow .u8 w a len cap zs) :
    Calls Tryz.prog 33 #[.slice a len cap] w (DrawnCH w) := by
  obtain ⟨hzA, hbA, hA0, hA1⟩ := box2_new w (.cells #[.slice none 0 0] 25) (.cells #[.string ⟨#[]⟩, .string ⟨#[]⟩, .string ⟨#[]⟩, .slice none 0 0, .string ⟨#[]⟩] 40)
  obtain ⟨wA, hwA⟩ : ∃ wA, wA = (w.alloc (.cells #[.slice none 0 0] 25)).alloc (.cells #[.string ⟨#[]⟩, .string ⟨#[]⟩, .string ⟨#[]⟩, .slice none 0 0, .string ⟨#[]⟩] 40) := ⟨_, rfl⟩
  rw [← hwA] at hzA hbA hA0 hA1
  have h' := isrow_below h hbA
  have HW := Lib.hid hwA
  clear hwA h
  go_enter Tryz.func33, Tryz.ntmps33
  go_wp2_with fail
  rw [← HW.out]
  refine (open_any a len cap zs _ h').mono ?_
  rintro e w1 ⟨g, rfl, hr1, hb1⟩
  clear h'
  have hgA := hr1.1
  have r0 := (hb1.block w.heap.size (by omega)).trans hA0
  have r1 := (hb1.block (w.heap.size + 1) (by omega)).trans hA1
  have hb01 := hbA.trans (hb1.mono (by omega))
  have hz1 := hb1.size
  clear hb1 hbA hA0 hA1
  go_wp2_with fail
  refine (cfgor_any g _ 0 20 _ (by omega) (by omega) hr1).mono ?_
  rintro e w2 ⟨hs, v, rfl, hrow, hok, hl, hd2⟩
  obtain ⟨a', c', rfl⟩ := hrow_formK hrow
  have hrl := hr1.lt
  have hz2 := hd2.2.size
  obtain ⟨w2b, hw2b⟩ : ∃ x, x = w2.alloc (.cells #[.slice a' hs.length c'] 25) := ⟨_, rfl⟩
  have hs2b : w2b.heap.size = w2.heap.size + 1 := by rw [hw2b]; simp
  have hc2 : w2b.heap[w2.heap.size]? = some (.cells #[.slice a' hs.length c'] 25 (0, 0)) := by rw [hw2b]; exact heap_alloc_new w2 _
  have hg2 : w1.grownBy w2b (some g) := by rw [hw2b]; exact grown_trans hd2.2 (World.grownBy_alloc _ _ _)
  have hr2 : RdAt w2b wA.heap.size g (0 + 400) := by rw [hw2b]; exact hd2.1.alloc _
  have hrow2 : HRowA g w2b (.slice a' hs.length c') hs := by rw [hw2b]; exact hrow.keep (World.grownBy_alloc _ _ _)
  have HW2 := Lib.hid hw2b
  clear hw2b hd2 hrow hr1
  go_wp2_with fail
  rw [← HW2.out]
  refine (head_any g _ (0 + 400) 14 _ (by omega) (by omega) (by omega) hr2).mono ?_
  rintro e w3 ⟨hd, v2, rfl, ho, hok2, b1, b2, b3, b4, hn, hd3⟩
  obtain ⟨a2, c2, rfl⟩ := own_len2 ho
  have hz3 := hd3.2.size
  obtain ⟨w3b, hw3b⟩ : ∃ x, x = w3.alloc (.cells #[.string hd.verb, .string hd.target, .string hd.host, .slice a2 hd.fs.length c2, .string hd.body] 40) := ⟨_, rfl⟩
  have hs3b : w3b.heap.size = w3.heap.size + 1 := by rw [hw3b]; simp
  have hh3 : w3b.heap[w3.heap.size]? = some (.cells #[.string hd.verb, .string hd.target, .string hd.host, .slice a2 hd.fs.length c2, .string hd.body] 40 (0, 0)) := by rw [hw3b]; exact heap_alloc_new w3 _
  have hg3 : w2b.grownBy w3b (some g) := by rw [hw3b]; exact grown_trans hd3.2 (World.grownBy_alloc _ _ _)
  have hr3 : RdAt w3b wA.heap.size g (0 + 400 + 1000) := by rw [hw3b]; exact hd3.1.alloc _
  have ho3 : w3b.ownsRow w2b.heap.size 50 2 (.slice a2 hd.fs.length c2) hd.fs.length (fcells hd.fs) := by rw [hw3b]; exact own_below ho ((Below.refl _ _).alloc (Nat.le_refl _) _)
  have hlt3 := ho.lt
  have HW3 := Lib.hid hw3b
  clear hw3b hd3 ho hr2
  go_wp2_with fail
  rw [← HW3.out]
  refine (pick_any g 3 _ (0 + 400 + 1000) _ (by omega) (by omega) hr3).mono ?_
  rintro e w4 ⟨k, rfl, hk, hd4⟩
  have hg4 := grown_trans (grown_trans hg2 hg3) hd4.2
  have hz4 := hd4.2.size
  have s0 := block_keep (by omega) r0 hg4
  have s1 := block_keep (by omega) r1 hg4
  have sc := block_keep (by omega) hc2 (grown_trans hg3 hd4.2)
  have sh := block_keep (by omega) hh3 hd4.2
  have hrow4 := (hrow2.keep hg3).keep hd4.2
  have ho4 := ho3.kept hd4.2 (by
    cases hv : (Value.slice a2 hd.fs.length c2).ownBlock with
    | none => exact .inl rfl
    | some b => exact .inr (fun e => by have := (hlt3 b hv).1; injection e with e; omega))
  have hb4 : Below w.heap.size w w4 := hb01.grown hg4 hb01.size (fun k hk => by cases hk; omega)
  clear hg2 hg3 hg4 hd4 hr3 hh3 hc2 hrow2 ho3 r0 r1 hb01
  have FIN : ∀ (q : Hd) (W : World), q.fs = hd.fs → q.verb.size ≤ 50 → q.target.size ≤ 50 → q.host.size ≤ 50 → q.body.size ≤ 50 → W.heap[w.heap.size]? = some (.cells #[.slice none 0 0] 25 (0, 0)) → W.heap[w.heap.size + 1]? = some (.cells #[.string ⟨#[]⟩, .string ⟨#[]⟩, .string ⟨#[]⟩, .slice none 0 0, .string ⟨#[]⟩] 40 (0, 0)) → HRowA g W (.slice a' hs.length c') hs → W.ownsRow w2b.heap.size 50 2 (.slice a2 hd.fs.length c2) hd.fs.length (fcells hd.fs) → Below w.heap.size w W →
      Hid (∀ W', (W' = set5 (W.setCell ⟨w.heap.size, 0, none⟩ (.slice a' hs.length c')) (w.heap.size + 1) (.string q.verb) (.string q.target) (.string q.host) (.slice a2 hd.fs.length c2) (.string q.body) ∨ W' = (set5 W (w.heap.size + 1) (.string q.verb) (.string q.target) (.string q.host) (.slice a2 hd.fs.length c2) (.string q.body)).setCell ⟨w.heap.size, 0, none⟩ (.slice a' hs.length c')) → W'.heap[w.heap.size]? = some (.cells #[.slice a' hs.length c'] 25 (0, 0)) ∧ W'.heap[w.heap.size + 1]? = some (.cells #[.string q.verb, .string q.target, .string q.host, .slice a2 hd.fs.length c2, .string q.body] 40 (0, 0)) ∧ DrawnCH w (.returned (.tuple #[.agg #[.slice a' hs.length c'], .agg #[.string q.verb, .string q.target, .string q.host, .slice a2 hd.fs.length c2, .string q.body]])) W') := fun q W hqf q1 q2 q3 q4 x0 x1 x2 x3 x4 => Lib.hid fun W' hW' => by
    obtain ⟨qv, qt, qh, qf, qb⟩ := q
    dsimp only at hqf
    subst hqf
    obtain ⟨y0, y1, y2, y3, y4⟩ := two_told (hd := ⟨qv, qt, qh, hd.fs, qb⟩) x0 x1 x2 x3 (by omega) x4 (Nat.le_refl _) W' hW'
    exact ⟨y0, y1, hs, ⟨qv, qt, qh, hd.fs, qb⟩, a', c', a2, c2, rfl, y2, hok, hl, y3, hok2, q1, q2, q3, q4, hn, y4⟩
  by_cases hk0 : 0 < k
  · obtain ⟨W, hW⟩ : ∃ W, W = w4.setCell ⟨w3.heap.size, 0, none⟩ (.string ⟨#[112, 117, 116]⟩) := ⟨_, rfl⟩
    have n0 : w.heap.size ≠ w3.heap.size := by omega
    have n1 : w.heap.size + 1 ≠ w3.heap.size := by omega
    have nc : w2.heap.size ≠ w3.heap.size := by omega
    obtain ⟨_, _, _, _, _, f0, _⟩ := five_facts sh
    have x0 : W.heap[w.heap.size]? = some (.cells #[.slice none 0 0] 25 (0, 0)) := (by rw [hW]; exact heap_setCell_other w4 ⟨w3.heap.size, 0, none⟩ _ _ n0 : W.heap[w.heap.size]? = w4.heap[w.heap.size]?).trans s0
    have x1 : W.heap[w.heap.size + 1]? = some (.cells #[.string ⟨#[]⟩, .string ⟨#[]⟩, .string ⟨#[]⟩, .slice none 0 0, .string ⟨#[]⟩] 40 (0, 0)) := (by rw [hW]; exact heap_setCell_other w4 ⟨w3.heap.size, 0, none⟩ _ _ n1 : W.heap[w.heap.size + 1]? = w4.heap[w.heap.size + 1]?).trans s1
    have xc : W.heap[w2.heap.size]? = some (.cells #[.slice a' hs.length c'] 25 (0, 0)) := (by rw [hW]; exact heap_setCell_other w4 ⟨w3.heap.size, 0, none⟩ _ _ nc : W.heap[w2.heap.size]? = w4.heap[w2.heap.size]?).trans sc
    have xh : W.heap[w3.heap.size]? = some (.cells #[.string ⟨#[112, 117, 116]⟩, .string hd.target, .string hd.host, .slice a2 hd.fs.length c2, .string hd.body] 40 (0, 0)) := by rw [hW]; exact heap_setCell_same w4 w3.heap.size 0 _ _ (.string ⟨#[112, 117, 116]⟩) sh
    have hrow5 : HRowA g W (.slice a' hs.length c') hs := by rw [hW]; exact hrow4.setH sh 0 _
    have ho5 : W.ownsRow w2b.heap.size 50 2 (.slice a2 hd.fs.length c2) hd.fs.length (fcells hd.fs) := ho4.kept (by rw [hW]; exact grown_setk (World.grownBy.refl _ (some w3.heap.size))) (by
      cases hv : (Value.slice a2 hd.fs.length c2).ownBlock with
      | none => exact .inl rfl
      | some b => exact .inr (fun e => by have := (hlt3 b hv).2; injection e with e; omega))
    have hb5 : Below w.heap.size w W := by rw [hW]; exact hb4.setCell (p := ⟨w3.heap.size, 0, none⟩) (by show w.heap.size ≤ w3.heap.size; omega) _
    have hF := FIN ⟨⟨#[112, 117, 116]⟩, hd.target, hd.host, hd.fs, hd.body⟩ W rfl (show (3 : Nat) ≤ 50 by decide) b2 b3 b4 x0 x1 hrow5 ho5 hb5
    dsimp only at hF
    have hF1 := Lib.hid (hF.out _ (.inl rfl))
    obtain ⟨k0, p0⟩ := one_factC x0
    obtain ⟨kc, _⟩ := one_factC xc
    obtain ⟨h0, h1, h2, h3, h4, _⟩ := five_facts xh
    obtain ⟨h5, h6, h7, h8, h9, _⟩ := five_facts ((heap_setCell_other W ⟨w.heap.size, 0, none⟩ w3.heap.size (.slice a' hs.length c') (by show w3.heap.size ≠ w.heap.size; omega)).trans xh)
    obtain ⟨_, _, _, _, _, y0, y1, y2, y3, y4⟩ := five_facts ((heap_setCell_other W ⟨w.heap.size, 0, none⟩ (w.heap.size + 1) (.slice a' hs.length c') (by show w.heap.size + 1 ≠ w.heap.size; omega)).trans x1)
    obtain ⟨z0, _⟩ := one_factC hF1.out.1
    obtain ⟨z1, z2, z3, z4, z5, _⟩ := five_facts hF1.out.2.1
    unfold set5 at z0 z1 z2 z3 z4 z5 hF1
    have HZ := Lib.hid (And.intro z0 (And.intro z1 (And.intro z2 (And.intro z3 (And.intro z4 z5)))))
    have HWx := Lib.hid hW
    clear z0 z1 z2 z3 z4 z5 hF hW FIN x0 x1 xc xh hrow5 ho5 hb5 s0 s1 sc sh hrow4 ho4 hb4 hok hl hok2 b1 b2 b3 b4 hn hlt3 n0 n1 nc
    have hk1 : (0 : Int) < (k : Int) := by omega
    go_wp2_with fail
    rw [← HWx.out]
    clear f0
    go_region
    all_goals
      go_wp2
      obtain ⟨z0, z1, z2, z3, z4, z5⟩ := HZ.out
      exact bodyPost_ret (v := .tuple #[.agg #[.slice a' hs.length c'], .agg #[.string ⟨#[112, 117, 116]⟩, .string hd.target, .string hd.host, .slice a2 hd.fs.length c2, .string hd.body]]) (by simp [results, Tryz.results33, go_sem, z0, z1, z2, z3, z4, z5]) rfl hF1.out.2.2.drew
  · obtain ⟨W, hW⟩ : ∃ W, W = w4 := ⟨_, rfl⟩
    have x0 := s0; have x1 := s1; have xc := sc; have xh := sh; have hrow5 := hrow4; have ho5 := ho4; have hb5 := hb4
    rw [← hW] at x0 x1 xc xh hrow5 ho5 hb5
    have hF := FIN hd W rfl b1 b2 b3 b4 x0 x1 hrow5 ho5 hb5
    have n0 := hW; have n1 := hW; have nc := hW
    have hF1 := Lib.hid (hF.out _ (.inl rfl))
    obtain ⟨k0, p0⟩ := one_factC x0
    obtain ⟨kc, _⟩ := one_factC xc
    obtain ⟨h0, h1, h2, h3, h4, _⟩ := five_facts xh
    obtain ⟨h5, h6, h7, h8, h9, _⟩ := five_facts ((heap_setCell_other W ⟨w.heap.size, 0, none⟩ w3.heap.size (.slice a' hs.length c') (by show w3.heap.size ≠ w.heap.size; omega)).trans xh)
    obtain ⟨_, _, _, _, _, y0, y1, y2, y3, y4⟩ := five_facts ((heap_setCell_other W ⟨w.heap.size, 0, none⟩ (w.heap.size + 1) (.slice a' hs.length c') (by show w.heap.size + 1 ≠ w.heap.size; omega)).trans x1)
    obtain ⟨z0, _⟩ := one_factC hF1.out.1
    obtain ⟨z1, z2, z3, z4, z5, _⟩ := five_facts hF1.out.2.1
    unfold set5 at z0 z1 z2 z3 z4 z5 hF1
    have HZ := Lib.hid (And.intro z0 (And.intro z1 (And.intro z2 (And.intro z3 (And.intro z4 z5)))))
    have HWx := Lib.hid hW
    clear z0 z1 z2 z3 z4 z5 hF hW FIN x0 x1 xc xh hrow5 ho5 hb5 s0 s1 sc sh hrow4 ho4 hb4 hok hl hok2 b1 b2 b3 b4 hn hlt3 n0 n1 nc
    have hk1 : ¬ (0 : Int) < (k : Int) := by omega
    go_wp2_with fail
    rw [← HWx.out]
    go_region
    all_goals
      go_wp2
      obtain ⟨z0, z1, z2, z3, z4, z5⟩ := HZ.out
      exact bodyPost_ret (v := .tuple #[.agg #[.slice a' hs.length c'], .agg #[.string hd.verb, .string hd.target, .string hd.host, .slice a2 hd.fs.length c2, .string hd.body]]) (by simp [results, Tryz.results33, go_sem, z0, z1, z2, z3, z4, z5]) rfl hF1.out.2.2.drew

set_option maxRecDepth 100000 in
set_option maxHeartbeats 3200000 in
theorem draw_keyof (a : Option Addr) (len cap : Nat) (zs : List Int) (w : World) (h : IsRow .u8 w a len cap zs) :
    Calls Tryz.prog 21 #[.slice a len cap] w (DrawnCH w) := by
  obtain ⟨hzA, hbA, hA0, hA1⟩ := box2_new w (.cells #[.slice none 0 0] 25) (.cells #[.string ⟨#[]⟩, .string ⟨#[]⟩, .string ⟨#[]⟩, .slice none 0 0, .string ⟨#[]⟩] 40)
  obtain ⟨wA, hwA⟩ : ∃ wA, wA = (w.alloc (.cells #[.slice none 0 0] 25)).alloc (.cells #[.string ⟨#[]⟩, .string ⟨#[]⟩, .string ⟨#[]⟩, .slice none 0 0, .string ⟨#[]⟩] 40) := ⟨_, rfl⟩
  rw [← hwA] at hzA hbA hA0 hA1
  have h' := isrow_below h hbA
  have HW := Lib.hid hwA
  clear hwA h
  go_enter Tryz.func21, Tryz.ntmps21
  go_wp2_with fail
  rw [← HW.out]
  refine (open_any a len cap zs _ h').mono ?_
  rintro e w1 ⟨g, rfl, hr1, hb1⟩
  clear h'
  have hgA := hr1.1
  have r0 := (hb1.block w.heap.size (by omega)).trans hA0
  have r1 := (hb1.block (w.heap.size + 1) (by omega)).trans hA1
  have hb01 := hbA.trans (hb1.mono (by omega))
  have hz1 := hb1.size
  clear hb1 hbA hA0 hA1
  go_wp2_with fail
  refine (cfgor_any g _ 0 20 _ (by omega) (by omega) hr1).mono ?_
  rintro e w2 ⟨hs, v, rfl, hrow, hok, hl, hd2⟩
  obtain ⟨a', c', rfl⟩ := hrow_formK hrow
  have hrl := hr1.lt
  have hz2 := hd2.2.size
  obtain ⟨w2b, hw2b⟩ : ∃ x, x = w2.alloc (.cells #[.slice a' hs.length c'] 25) := ⟨_, rfl⟩
  have hs2b : w2b.heap.size = w2.heap.size + 1 := by rw [hw2b]; simp
  have hc2 : w2b.heap[w2.heap.size]? = some (.cells #[.slice a' hs.length c'] 25 (0, 0)) := by rw [hw2b]; exact heap_alloc_new w2 _
  have hg2 : w1.grownBy w2b (some g) := by rw [hw2b]; exact grown_trans hd2.2 (World.grownBy_alloc _ _ _)
  have hr2 : RdAt w2b wA.heap.size g (0 + 400) := by rw [hw2b]; exact hd2.1.alloc _
  have hrow2 : HRowA g w2b (.slice a' hs.length c') hs := by rw [hw2b]; exact hrow.keep (World.grownBy_alloc _ _ _)
  have HW2 := Lib.hid hw2b
  clear hw2b hd2 hrow hr1
  go_wp2_with fail
  rw [← HW2.out]
  refine (head_any g _ (0 + 400) 14 _ (by omega) (by omega) (by omega) hr2).mono ?_
  rintro e w3 ⟨hd, v2, rfl, ho, hok2, b1, b2, b3, b4, hn, hd3⟩
  obtain ⟨a2, c2, rfl⟩ := own_len2 ho
  have hz3 := hd3.2.size
  obtain ⟨w3b, hw3b⟩ : ∃ x, x = w3.alloc (.cells #[.string hd.verb, .string hd.target, .string hd.host, .slice a2 hd.fs.length c2, .string hd.body] 40) := ⟨_, rfl⟩
  have hs3b : w3b.heap.size = w3.heap.size + 1 := by rw [hw3b]; simp
  have hh3 : w3b.heap[w3.heap.size]? = some (.cells #[.string hd.verb, .string hd.target, .string hd.host, .slice a2 hd.fs.length c2, .string hd.body] 40 (0, 0)) := by rw [hw3b]; exact heap_alloc_new w3 _
  have hg3 : w2b.grownBy w3b (some g) := by rw [hw3b]; exact grown_trans hd3.2 (World.grownBy_alloc _ _ _)
  have hr3 : RdAt w3b wA.heap.size g (0 + 400 + 1000) := by rw [hw3b]; exact hd3.1.alloc _
  have ho3 : w3b.ownsRow w2b.heap.size 50 2 (.slice a2 hd.fs.length c2) hd.fs.length (fcells hd.fs) := by rw [hw3b]; exact own_below ho ((Below.refl _ _).alloc (Nat.le_refl _) _)
  have hlt3 := ho.lt
  have HW3 := Lib.hid hw3b
  clear hw3b hd3 ho hr2
  go_wp2_with fail
  rw [← HW3.out]
  refine (pick_any g 2 _ (0 + 400 + 1000) _ (by omega) (by omega) hr3).mono ?_
  rintro e w4 ⟨k, rfl, hk, hd4⟩
  have hg4 := grown_trans (grown_trans hg2 hg3) hd4.2
  have hz4 := hd4.2.size
  have s0 := block_keep (by omega) r0 hg4
  have s1 := block_keep (by omega) r1 hg4
  have sc := block_keep (by omega) hc2 (grown_trans hg3 hd4.2)
  have sh := block_keep (by omega) hh3 hd4.2
  have hrow4 := (hrow2.keep hg3).keep hd4.2
  have ho4 := ho3.kept hd4.2 (by
    cases hv : (Value.slice a2 hd.fs.length c2).ownBlock with
    | none => exact .inl rfl
    | some b => exact .inr (fun e => by have := (hlt3 b hv).1; injection e with e; omega))
  have hb4 : Below w.heap.size w w4 := hb01.grown hg4 hb01.size (fun k hk => by cases hk; omega)
  clear hg2 hg3 hg4 hd4 hr3 hh3 hc2 hrow2 ho3 r0 r1 hb01
  have FIN : ∀ (q : Hd) (W : World), q.fs = hd.fs → q.verb.size ≤ 50 → q.target.size ≤ 50 → q.host.size ≤ 50 → q.body.size ≤ 50 → W.heap[w.heap.size]? = some (.cells #[.slice none 0 0] 25 (0, 0)) → W.heap[w.heap.size + 1]? = some (.cells #[.string ⟨#[]⟩, .string ⟨#[]⟩, .string ⟨#[]⟩, .slice none 0 0, .string ⟨#[]⟩] 40 (0, 0)) → HRowA g W (.slice a' hs.length c') hs → W.ownsRow w2b.heap.size 50 2 (.slice a2 hd.fs.length c2) hd.fs.length (fcells hd.fs) → Below w.heap.size w W →
      Hid (∀ W', (W' = set5 (W.setCell ⟨w.heap.size, 0, none⟩ (.slice a' hs.length c')) (w.heap.size + 1) (.string q.verb) (.string q.target) (.string q.host) (.slice a2 hd.fs.length c2) (.string q.body) ∨ W' = (set5 W (w.heap.size + 1) (.string q.verb) (.string q.target) (.string q.host) (.slice a2 hd.fs.length c2) (.string q.body)).setCell ⟨w.heap.size, 0, none⟩ (.slice a' hs.length c')) → W'.heap[w.heap.size]? = some (.cells #[.slice a' hs.length c'] 25 (0, 0)) ∧ W'.heap[w.heap.size + 1]? = some (.cells #[.string q.verb, .string q.target, .string q.host, .slice a2 hd.fs.length c2, .string q.body] 40 (0, 0)) ∧ DrawnCH w (.returned (.tuple #[.agg #[.slice a' hs.length c'], .agg #[.string q.verb, .string q.target, .string q.host, .slice a2 hd.fs.length c2, .string q.body]])) W') := fun q W hqf q1 q2 q3 q4 x0 x1 x2 x3 x4 => Lib.hid fun W' hW' => by
    obtain ⟨qv, qt, qh, qf, qb⟩ := q
    dsimp only at hqf
    subst hqf
    obtain ⟨y0, y1, y2, y3, y4⟩ := two_told (hd := ⟨qv, qt, qh, hd.fs, qb⟩) x0 x1 x2 x3 (by omega) x4 (Nat.le_refl _) W' hW'
    exact ⟨y0, y1, hs, ⟨qv, qt, qh, hd.fs, qb⟩, a', c', a2, c2, rfl, y2, hok, hl, y3, hok2, q1, q2, q3, q4, hn, y4⟩
  by_cases hk0 : k = 0
  · obtain ⟨W, hW⟩ : ∃ W, W = (w4.setCell ⟨w3.heap.size, 0, none⟩ (.string ⟨#[103, 101, 116]⟩)).setCell ⟨w3.heap.size, 4, none⟩ (.string ⟨#[]⟩) := ⟨_, rfl⟩
    have n0 : w.heap.size ≠ w3.heap.size := by omega
    have n1 : w.heap.size + 1 ≠ w3.heap.size := by omega
    have nc : w2.heap.size ≠ w3.heap.size := by omega
    obtain ⟨_, _, _, _, _, f0, _⟩ := five_facts sh
    have sh1 := heap_setCell_same w4 w3.heap.size 0 _ _ (.string ⟨#[103, 101, 116]⟩) sh
    obtain ⟨_, _, _, _, _, _, _, _, _, f4⟩ := five_facts sh1
    have x0 : W.heap[w.heap.size]? = some (.cells #[.slice none 0 0] 25 (0, 0)) := (by rw [hW]; exact (heap_setCell_other _ ⟨w3.heap.size, 4, none⟩ _ _ n0).trans (heap_setCell_other w4 ⟨w3.heap.size, 0, none⟩ _ _ n0) : W.heap[w.heap.size]? = w4.heap[w.heap.size]?).trans s0
    have x1 : W.heap[w.heap.size + 1]? = some (.cells #[.string ⟨#[]⟩, .string ⟨#[]⟩, .string ⟨#[]⟩, .slice none 0 0, .string ⟨#[]⟩] 40 (0, 0)) := (by rw [hW]; exact (heap_setCell_other _ ⟨w3.heap.size, 4, none⟩ _ _ n1).trans (heap_setCell_other w4 ⟨w3.heap.size, 0, none⟩ _ _ n1) : W.heap[w.heap.size + 1]? = w4.heap[w.heap.size + 1]?).trans s1
    have xc : W.heap[w2.heap.size]? = some (.cells #[.slice a' hs.length c'] 25 (0, 0)) := (by rw [hW]; exact (heap_setCell_other _ ⟨w3.heap.size, 4, none⟩ _ _ nc).trans (heap_setCell_other w4 ⟨w3.heap.size, 0, none⟩ _ _ nc) : W.heap[w2.heap.size]? = w4.heap[w2.heap.size]?).trans sc
    have xh : W.heap[w3.heap.size]? = some (.cells #[.string ⟨#[103, 101, 116]⟩, .string hd.target, .string hd.host, .slice a2 hd.fs.length c2, .string ⟨#[]⟩] 40 (0, 0)) := by rw [hW]; exact heap_setCell_same _ w3.heap.size 4 _ _ (.string ⟨#[]⟩) sh1
    have hrow5 : HRowA g W (.slice a' hs.length c') hs := by rw [hW]; exact (hrow4.setH sh 0 _).setH sh1 4 _
    have ho5 : W.ownsRow w2b.heap.size 50 2 (.slice a2 hd.fs.length c2) hd.fs.length (fcells hd.fs) := ho4.kept (by rw [hW]; exact grown_setk (grown_setk (World.grownBy.refl _ (some w3.heap.size)))) (by
      cases hv : (Value.slice a2 hd.fs.length c2).ownBlock with
      | none => exact .inl rfl
      | some b => exact .inr (fun e => by have := (hlt3 b hv).2; injection e with e; omega))
    have hb5 : Below w.heap.size w W := by rw [hW]; exact (hb4.setCell (p := ⟨w3.heap.size, 0, none⟩) (by show w.heap.size ≤ w3.heap.size; omega) _).setCell (p := ⟨w3.heap.size, 4, none⟩) (by show w.heap.size ≤ w3.heap.size; omega) _
    have hF := FIN ⟨⟨#[103, 101, 116]⟩, hd.target, hd.host, hd.fs, ⟨#[]⟩⟩ W rfl (show (3 : Nat) ≤ 50 by decide) b2 b3 (show (0 : Nat) ≤ 50 by decide) x0 x1 hrow5 ho5 hb5
    dsimp only at hF
    have hF1 := Lib.hid (hF.out _ (.inl rfl))
    obtain ⟨k0, p0⟩ := one_factC x0
    obtain ⟨kc, _⟩ := one_factC xc
    obtain ⟨h0, h1, h2, h3, h4, _⟩ := five_facts xh
    obtain ⟨h5, h6, h7, h8, h9, _⟩ := five_facts ((heap_setCell_other W ⟨w.heap.size, 0, none⟩ w3.heap.size (.slice a' hs.length c') (by show w3.heap.size ≠ w.heap.size; omega)).trans xh)
    obtain ⟨_, _, _, _, _, y0, y1, y2, y3, y4⟩ := five_facts ((heap_setCell_other W ⟨w.heap.size, 0, none⟩ (w.heap.size + 1) (.slice a' hs.length c') (by show w.heap.size + 1 ≠ w.heap.size; omega)).trans x1)
    obtain ⟨z0, _⟩ := one_factC hF1.out.1
    obtain ⟨z1, z2, z3, z4, z5, _⟩ := five_facts hF1.out.2.1
    unfold set5 at z0 z1 z2 z3 z4 z5 hF1
    have HZ := Lib.hid (And.intro z0 (And.intro z1 (And.intro z2 (And.intro z3 (And.intro z4 z5)))))
    have HWx := Lib.hid hW
    clear z0 z1 z2 z3 z4 z5 hF hW FIN x0 x1 xc xh hrow5 ho5 hb5 s0 s1 sc sh sh1 hrow4 ho4 hb4 hok hl hok2 b1 b2 b3 b4 hn hlt3 n0 n1 nc
    subst hk0
    go_wp2_with fail
    rw [← HWx.out]
    clear f0 f4
    go_region
    all_goals
      go_wp2
      obtain ⟨z0, z1, z2, z3, z4, z5⟩ := HZ.out
      exact bodyPost_ret (v := .tuple #[.agg #[.slice a' hs.length c'], .agg #[.string ⟨#[103, 101, 116]⟩, .string hd.target, .string hd.host, .slice a2 hd.fs.length c2, .string ⟨#[]⟩]]) (by simp [results, Tryz.results21, go_sem, z0, z1, z2, z3, z4, z5]) rfl hF1.out.2.2.drew
  · obtain ⟨W, hW⟩ : ∃ W, W = w4 := ⟨_, rfl⟩
    have x0 := s0; have x1 := s1; have xc := sc; have xh := sh; have hrow5 := hrow4; have ho5 := ho4; have hb5 := hb4
    rw [← hW] at x0 x1 xc xh hrow5 ho5 hb5
    have hF := FIN hd W rfl b1 b2 b3 b4 x0 x1 hrow5 ho5 hb5
    have n0 := hW; have n1 := hW; have nc := hW
    have hF1 := Lib.hid (hF.out _ (.inl rfl))
    obtain ⟨k0, p0⟩ := one_factC x0
    obtain ⟨kc, _⟩ := one_factC xc
    obtain ⟨h0, h1, h2, h3, h4, _⟩ := five_facts xh
    obtain ⟨h5, h6, h7, h8, h9, _⟩ := five_facts ((heap_setCell_other W ⟨w.heap.size, 0, none⟩ w3.heap.size (.slice a' hs.length c') (by show w3.heap.size ≠ w.heap.size; omega)).trans xh)
    obtain ⟨_, _, _, _, _, y0, y1, y2, y3, y4⟩ := five_facts ((heap_setCell_other W ⟨w.heap.size, 0, none⟩ (w.heap.size + 1) (.slice a' hs.length c') (by show w.heap.size + 1 ≠ w.heap.size; omega)).trans x1)
    obtain ⟨z0, _⟩ := one_factC hF1.out.1
    obtain ⟨z1, z2, z3, z4, z5, _⟩ := five_facts hF1.out.2.1
    unfold set5 at z0 z1 z2 z3 z4 z5 hF1
    have HZ := Lib.hid (And.intro z0 (And.intro z1 (And.intro z2 (And.intro z3 (And.intro z4 z5)))))
    have HWx := Lib.hid hW
    clear z0 z1 z2 z3 z4 z5 hF hW FIN x0 x1 xc xh hrow5 ho5 hb5 s0 s1 sc sh hrow4 ho4 hb4 hok hl hok2 b1 b2 b3 b4 hn hlt3 n0 n1 nc
    obtain rfl : k = 1 := by
      have hm : max (2 : Int) 1 = 2 := by decide
      omega
    go_wp2_with fail
    rw [← HWx.out]
    go_region
    all_goals
      go_wp2
      obtain ⟨z0, z1, z2, z3, z4, z5⟩ := HZ.out
      exact bodyPost_ret (v := .tuple #[.agg #[.slice a' hs.length c'], .agg #[.string hd.verb, .string hd.target, .string hd.host, .slice a2 hd.fs.length c2, .string hd.body]]) (by simp [results, Tryz.results21, go_sem, z0, z1, z2, z3, z4, z5]) rfl hF1.out.2.2.drew
end Go.Proofs.YtiepobifbkleaaaGreatDoor

-- from XGdH
/- Walks: the helpers of the laws on requests. -/
namespace Go.Proofs.YtiepobifbkleaaaGreatDoor
open Go.RowKit

set_option maxHeartbeats 1600000 in
theorem gd_fields (v1 v2 : Value) (fs : List Fd) (w : World) (hF1 : FRow w v1 fs) (hF2 : FRow w v2 fs) (hn : fs.length ≤ 2000000) :
    Calls Tryz.prog 83 #[v1, v2] w fun e w' => e = .returned (.bool true) ∧ Below w.heap.size w w' := by
  obtain ⟨a1, c1, rfl, _, _, h1⟩ := hF1
  obtain ⟨a2, c2, rfl, _, _, h2⟩ := hF2
  have H1 := Lib.hid h1; have H2 := Lib.hid h2; clear h1 h2
  go_enter Tryz.func83, Tryz.ntmps83
  go_wp2
  go_loopw [5] (fun i wr => ∃ k : Nat, k ≤ fs.length ∧ i = .int .i64 k ∧ Below w.heap.size w wr) (fun i _ => fs.length - (intOf i).toNat)
  case atStart => exact ⟨0, Nat.zero_le _, rfl, Below.refl _ _⟩
  case round =>
    obtain ⟨k, hk, rfl, hnx⟩ := hrel
    by_cases hlt : k < fs.length
    · obtain ⟨b1, o1, rfl, hb1, c1, d1⟩ := H1.out k fs[k] (List.getElem?_eq_getElem hlt)
      obtain ⟨b2, o2, rfl, hb2, c2, d2⟩ := H2.out k fs[k] (List.getElem?_eq_getElem hlt)
      generalize fs[k] = f at *
      have HC : ∀ W, Below w.heap.size w W → W.cell? ⟨b1, o1 + k * 2, none⟩ = some (.string f.1) ∧ W.cell? ⟨b1, o1 + k * 2 + 1, none⟩ = some (.string f.2) ∧ W.cell? ⟨b2, o2 + k * 2, none⟩ = some (.string f.1) ∧ W.cell? ⟨b2, o2 + k * 2 + 1, none⟩ = some (.string f.2) := fun W hW =>
        ⟨(hW.cell (p := ⟨b1, o1 + k * 2, none⟩) hb1).trans c1, (hW.cell (p := ⟨b1, o1 + k * 2 + 1, none⟩) hb1).trans d1, (hW.cell (p := ⟨b2, o2 + k * 2, none⟩) hb2).trans c2, (hW.cell (p := ⟨b2, o2 + k * 2 + 1, none⟩) hb2).trans d2⟩
      obtain ⟨k1, k2, k3, k4⟩ := HC wr hnx
      clear c1 c2 d1 d2 HC H1 H2
      obtain ⟨nm, vl⟩ := f
      simp only at k1 k2 k3 k4
      have i1 : (k : Int) < (fs.length : Int) := by omega
      have e1 := str_refl nm; have e2 := str_refl vl
      have hbz := Lib.hid hnx.drew; clear hnx
      go_wp2_with fail
      go_region_with (fail)
      all_goals go_wp2
      all_goals go_roundw
      all_goals first
        | (case rel => exact ⟨k + 1, by omega, by go_num, hbz.out⟩)
        | (simp [intOf]; omega)
    · have : k = fs.length := by omega
      subst this
      go_wp2
      go_ret
      exact ⟨rfl, hnx⟩

set_option maxHeartbeats 1600000 in
theorem gd_head (h : Hd) (v1 v2 : Value) (w : World) (hF1 : FRow w v1 h.fs) (hF2 : FRow w v2 h.fs) (hn : h.fs.length ≤ 2000000) :
    Calls Tryz.prog 29 #[headV h v1, headV h v2] w fun e w' => e = .returned (.bool true) ∧ Below w.heap.size w w' := by
  obtain ⟨verb, target, host, fs, body⟩ := h
  dsimp only at *
  unfold headV
  obtain ⟨W2, hW2⟩ : ∃ W2, W2 = (w.alloc (.cells #[.string verb, .string target, .string host, v1, .string body] 40)).alloc (.cells #[.string verb, .string target, .string host, v2, .string body] 40) := ⟨_, rfl⟩
  have hz2 : W2.heap.size = w.heap.size + 2 := by rw [hW2]; simp
  have hb2 : Below w.heap.size w W2 := by
    rw [hW2]; exact ((Below.refl _ _).alloc (Nat.le_refl _) _).alloc (by simp) _
  have hA0 : W2.heap[w.heap.size]? = some (.cells #[.string verb, .string target, .string host, v1, .string body] 40 (0, 0)) := by
    rw [hW2, Below.heap_alloc _ _ _ (by simp)]; exact heap_alloc_new w _
  have hA1 : W2.heap[w.heap.size + 1]? = some (.cells #[.string verb, .string target, .string host, v2, .string body] 40 (0, 0)) := by
    rw [hW2]
    have := heap_alloc_new (w.alloc (.cells #[.string verb, .string target, .string host, v1, .string body] 40)) (.cells #[.string verb, .string target, .string host, v2, .string body] 40)
    simpa using this
  have hE := gd_fields v1 v2 fs W2 (hF1.below (Nat.le_refl _) hb2) (hF2.below (Nat.le_refl _) hb2) hn
  have HA := Lib.hid (And.intro hA0 hA1)
  have HB := Lib.hid hb2; have HW := Lib.hid hW2
  clear hA0 hA1 hb2 hW2 hF1 hF2
  have e1 := str_refl verb; have e2 := str_refl target; have e3 := str_refl host; have e4 := str_refl body
  go_enter Tryz.func29, Tryz.ntmps29
  go_wp2_with fail
  rw [← HW.out]
  refine hE.mono ?_
  rintro e w3 ⟨rfl, hb3⟩
  have h0 := (hb3.block w.heap.size (by omega)).trans HA.out.1
  have h1 := (hb3.block (w.heap.size + 1) (by omega)).trans HA.out.2
  have hbl := HB.out.trans (hb3.mono (by omega))
  clear hb3 hE
  obtain ⟨a0, a1, a2, a3, a4, _⟩ := five_facts h0
  obtain ⟨b0, b1, b2, b3, b4, _⟩ := five_facts h1
  go_wp2
  go_ret
  exact ⟨rfl, hbl⟩
end Go.Proofs.YtiepobifbkleaaaGreatDoor

-- from XLKyPd
/- The law on requests that are put on, over drawn inputs. -/
namespace Go.Proofs.YtiepobifbkleaaaGreatDoor
open Go.RowKit Go.Maps

set_option maxRecDepth 100000 in
set_option maxHeartbeats 12800000 in
theorem law_putdrawn (a : Option Addr) (len cap : Nat) (zs : List Int) (w : World) (h0 : IsRow .u8 w a len cap zs) (hcls : Cls w) (htab : Tab w) :
    Calls Tryz.prog 6 #[.slice a len cap] w fun e w' => e = .returned (.bool true) ∧ Below w.heap.size w w' := by
  have hl := isrow_len h0
  by_cases hbig : 1048576 < len
  · clear hcls h0 htab
    go_enter Tryz.func6, Tryz.ntmps6
    go_wp2_with fail
    go_ret
    exact ⟨rfl, Below.refl _ _⟩
  have d1 := draw_putask a len cap zs w h0
  clear h0
  have HX : Hid (∀ W, Below w.heap.size w W → Cls W ∧ Tab W) := Lib.hid fun W hW => ⟨hcls.below hW (Nat.le_refl _), htab.below hW (Nat.le_refl _)⟩
  clear hcls htab
  unfold DrawnCH at d1
  go_enter Tryz.func6, Tryz.ntmps6
  go_wp2_with fail
  refine d1.mono ?_
  rintro e w1 ⟨hs, h, a1, c1, a2, c2, rfl, hH, hsm, hl5, hF, hok, b1, b2, b3, b4, hn, hb1⟩
  clear d1
  have hN : HOks hs 1048576 := fun x hx s hs => Nat.le_trans ((hsm x hx).1 s hs) (by decide)
  have hdz : HdSz h := ⟨by omega, by omega, by omega, by omega, fun f hf => ⟨Nat.le_trans (hok f hf).1 (by decide), Nat.le_trans (hok f hf).2 (by decide)⟩, by omega⟩
  obtain ⟨hzA, hbA, hA0, hA1⟩ := box2_new w1 (.cells #[.slice a1 hs.length c1] 25) (.cells #[.string h.verb, .string h.target, .string h.host, .slice a2 h.fs.length c2, .string h.body] 40)
  obtain ⟨w2, hw2⟩ : ∃ x, x = (w1.alloc (.cells #[.slice a1 hs.length c1] 25)).alloc (.cells #[.string h.verb, .string h.target, .string h.host, .slice a2 h.fs.length c2, .string h.body] 40) := ⟨_, rfl⟩
  rw [← hw2] at hzA hbA hA0 hA1
  have HW2 := Lib.hid hw2
  have hH2 := hH.below (Nat.le_refl _) hbA
  have hF2 := hF.below (Nat.le_refl _) hbA
  have hb02 := hb1.trans (hbA.mono hb1.size)
  have HXA : Hid (∀ W, Below w2.heap.size w2 W → (Cls W ∧ Tab W) ∧ HRow W (.slice a1 hs.length c1) hs ∧ FRow W (.slice a2 h.fs.length c2) h.fs ∧ W.heap[w1.heap.size]? = some (.cells #[.slice a1 hs.length c1] 25 (0, 0)) ∧ W.heap[w1.heap.size + 1]? = some (.cells #[.string h.verb, .string h.target, .string h.host, .slice a2 h.fs.length c2, .string h.body] 40 (0, 0)) ∧ Below w.heap.size w W) := Lib.hid fun W hW => by
    have hbW := hb02.trans (hW.mono hb02.size)
    obtain ⟨k1, k2⟩ := HX.out _ hbW
    exact ⟨⟨k1, k2⟩, hH2.below (Nat.le_refl _) hW, hF2.below (Nat.le_refl _) hW, heap_keep hW (Nat.le_refl _) _ _ hA0, heap_keep hW (Nat.le_refl _) _ _ hA1, hbW⟩
  obtain ⟨x0, _⟩ := one_fact hA0
  obtain ⟨x1, x2, x3, x4, x5, _⟩ := five_facts hA1
  have hI := impl_putask hs _ h _ w2 hH2 hN hF2 hdz (HXA.out _ (Below.refl _ _)).1.1 (HXA.out _ (Below.refl _ _)).1.2
  have HS : Hid (∀ W, Below w2.heap.size w2 W → Calls Tryz.prog 35 #[.agg #[.slice a1 hs.length c1], headV h (.slice a2 h.fs.length c2)] W fun e w' => HRet2 W.heap.size (putAsk hs h) e w' ∧ Below W.heap.size W w') := Lib.hid fun W hW => by
    obtain ⟨_, k2, k3, _⟩ := HXA.out _ hW
    exact spec_putask hs _ h _ W k2 hN k3 hdz
  rw [hw2] at x0 x1 x2 x3 x4 x5
  have HN := Lib.hid hN
  clear hw2 hH hF hbA hA0 hA1 hH2 hF2 hb1 hb02 hsm hl5
  by_cases hb : askB hs h bPut = true
  · have hph := put_hed hb
    have hpa : putAsk hs h = (⟨⟨#[112, 117, 116]⟩, h.target, name0 hs (routeI hs h.host), [], h.body⟩, true) := by unfold putAsk; rw [if_pos hb]; rfl
    rw [hpa] at hI HS hph
    obtain ⟨r0, hv0, hb0⟩ := get_iff.1 hb
    obtain ⟨hcfg, r1⟩ := route_lt r0
    have hrn := route_name0 hcfg r0 r1 (fun hx hm => route_at hcfg hx hm)
    obtain ⟨xn, hxn, _, hmn, _⟩ := name0_at hcfg r0 r1
    have hnm : (name0 hs (routeI hs h.host)).size ≤ 1048576 := HN.out _ (List.mem_of_getElem? hxn) _ hmn
    generalize hR : routeI hs h.host = R at *
    generalize name0 hs R = nm at *
    unfold HRet2 headV at hI HS
    dsimp only at hI HS hph
    go_wp2_with fail
    rw [← HW2.out]
    refine hI.mono ?_
    rintro e w3 ⟨⟨vr, rfl, ho⟩, hb3⟩
    obtain ⟨a5, c5, hv⟩ := own_len2 ho
    subst hv
    have hr3 : FRow w3 (.slice a5 0 c5) [] := frow_own' (fs := []) ho
    obtain ⟨w3b, hw3b⟩ : ∃ x, x = w3.alloc (.cells #[.string ⟨#[112, 117, 116]⟩, .string h.target, .string nm, .slice a5 0 c5, .string h.body] 40) := ⟨_, rfl⟩
    have hs3b : w3b.heap.size = w3.heap.size + 1 := by rw [hw3b]; simp
    have hb3b : Below w3.heap.size w3 w3b := by rw [hw3b]; exact (Below.refl _ _).alloc (Nat.le_refl _) _
    have hY3 : w3b.heap[w3.heap.size]? = some (.cells #[.string ⟨#[112, 117, 116]⟩, .string h.target, .string nm, .slice a5 0 c5, .string h.body] 40 (0, 0)) := by rw [hw3b]; exact heap_alloc_new w3 _
    have hr3b := hr3.below (Nat.le_refl _) hb3b
    have hD3 := hb3.trans (hb3b.mono hb3.size)
    have hz3 := hb3.size
    obtain ⟨_, _, _, k4, k5, _⟩ := HXA.out _ hD3
    clear x0 x1 x2 x3 x4 x5
    obtain ⟨x0, _⟩ := one_fact k4
    obtain ⟨x1, x2, x3, x4, x5, _⟩ := five_facts k5
    have hS := HS.out w3b hD3
    have HW3 := Lib.hid hw3b
    rw [hw3b] at x0 x1 x2 x3 x4 x5
    clear hI HS ho hb3 hr3 hw3b hb3b k4 k5
    go_wp2_with fail
    rw [← HW3.out]
    refine hS.mono ?_
    rintro e w4 ⟨⟨vr, rfl, ho⟩, hb4⟩
    obtain ⟨a6, c6, hv⟩ := own_len2 ho
    subst hv
    have hr4 : FRow w4 (.slice a6 0 c6) [] := frow_own' (fs := []) ho
    obtain ⟨w4b, hw4b⟩ : ∃ x, x = w4.alloc (.cells #[.string ⟨#[112, 117, 116]⟩, .string h.target, .string nm, .slice a6 0 c6, .string h.body] 40) := ⟨_, rfl⟩
    have hs4b : w4b.heap.size = w4.heap.size + 1 := by rw [hw4b]; simp
    have hb4b : Below w4.heap.size w4 w4b := by rw [hw4b]; exact (Below.refl _ _).alloc (Nat.le_refl _) _
    have hY4 : w4b.heap[w4.heap.size]? = some (.cells #[.string ⟨#[112, 117, 116]⟩, .string h.target, .string nm, .slice a6 0 c6, .string h.body] 40 (0, 0)) := by rw [hw4b]; exact heap_alloc_new w4 _
    have hr4b := hr4.below (Nat.le_refl _) hb4b
    have hE4 := hb4.trans (hb4b.mono hb4.size)
    have hD4 := hD3.trans (hE4.mono hD3.size)
    have hY34 := (hE4.block w3.heap.size (by omega)).trans hY3
    have hr34 := hr3b.below (Nat.le_refl _) hE4
    have HXC : Hid (∀ W, Below w4b.heap.size w4b W → ((Cls W ∧ Tab W) ∧ Below w.heap.size w W) ∧ W.heap[w1.heap.size]? = some (.cells #[.slice a1 hs.length c1] 25 (0, 0)) ∧ W.heap[w1.heap.size + 1]? = some (.cells #[.string h.verb, .string h.target, .string h.host, .slice a2 h.fs.length c2, .string h.body] 40 (0, 0)) ∧ W.heap[w3.heap.size]? = some (.cells #[.string ⟨#[112, 117, 116]⟩, .string h.target, .string nm, .slice a5 0 c5, .string h.body] 40 (0, 0))) := Lib.hid fun W hW => by
      obtain ⟨k1, _, _, k4, k5, k6⟩ := HXA.out _ (hD4.trans (hW.mono hD4.size))
      exact ⟨⟨k1, k6⟩, k4, k5, heap_keep hW (Nat.le_refl _) _ _ hY34⟩
    have HXR : Hid (∀ W, Below w4b.heap.size w4b W → HRow W (.slice a1 hs.length c1) hs ∧ FRow W (.slice a5 0 c5) []) := Lib.hid fun W hW => ⟨(HXA.out _ (hD4.trans (hW.mono hD4.size))).2.1, hr34.below (Nat.le_refl _) hW⟩
    obtain ⟨g0, g1, g2, g3, g4, _⟩ := five_facts hY34
    obtain ⟨z0, z1, z2, z3, z4, _⟩ := five_facts hY4
    have hG := gd_head ⟨⟨#[112, 117, 116]⟩, h.target, nm, [], h.body⟩ _ _ w4b hr34 hr4b (Nat.zero_le _)
    unfold headV at hG
    dsimp only at hG
    have HW4 := Lib.hid hw4b
    rw [hw4b] at g0 g1 g2 g3 g4 z0 z1 z2 z3 z4
    clear hS ho hb4 hr4 hw4b hb4b hY3 hr3b hE4 hD3 hD4 hY34 hr34 hY4 hr4b x0 x1 x2 x3 x4 x5
    go_wp2_with fail
    rw [← HW4.out]
    refine hG.mono ?_
    rintro e w6 ⟨rfl, hb6⟩
    obtain ⟨_, _, _, k9⟩ := HXC.out _ hb6
    clear g0 g1 g2 g3 g4 z0 z1 z2 z3 z4 hG
    obtain ⟨g0, g1, g2, g3, g4, _⟩ := five_facts k9
    clear k9
    have hcl6 := HXC.out _ hb6
    have HXC6 : Hid (∀ W, Below w6.heap.size w6 W → ((Cls W ∧ Tab W) ∧ Below w.heap.size w W) ∧ W.heap[w1.heap.size]? = some (.cells #[.slice a1 hs.length c1] 25 (0, 0)) ∧ W.heap[w1.heap.size + 1]? = some (.cells #[.string h.verb, .string h.target, .string h.host, .slice a2 h.fs.length c2, .string h.body] 40 (0, 0)) ∧ W.heap[w3.heap.size]? = some (.cells #[.string ⟨#[112, 117, 116]⟩, .string h.target, .string nm, .slice a5 0 c5, .string h.body] 40 (0, 0))) := Lib.hid fun W hW => HXC.out _ (hb6.trans (hW.mono hb6.size))
    have HXR6 : Hid (∀ W, Below w6.heap.size w6 W → HRow W (.slice a1 hs.length c1) hs ∧ FRow W (.slice a5 0 c5) []) := Lib.hid fun W hW => HXR.out _ (hb6.trans (hW.mono hb6.size))
    have HHed : Hid (∀ W, Below w6.heap.size w6 W → Calls Tryz.prog 26 #[.agg #[.string ⟨#[112, 117, 116]⟩, .string h.target, .string nm, .slice a5 0 c5, .string h.body]] W fun e w' => e = .returned (.bool true) ∧ Below W.heap.size W w') := Lib.hid fun W hW => by
      have hk := impl_hedok ⟨⟨#[112, 117, 116]⟩, h.target, nm, [], h.body⟩ (.slice a5 0 c5) W (HXR6.out W hW).2 (fun f hf => by cases hf) (show (3 : Nat) ≤ 1048576 by decide) (by show h.target.size ≤ 1048576; omega) hnm (by show h.body.size ≤ 1048576; omega) (HXC6.out W hW).1.1.1 (HXC6.out W hW).1.1.2
      rw [hph] at hk
      exact hk
    have HRn : Hid (∀ W, Below w6.heap.size w6 W → Calls Tryz.prog 24 #[.agg #[.slice a1 hs.length c1], .string nm] W fun e w' => e = .returned (.int .i64 R) ∧ Below W.heap.size W w') := Lib.hid fun W hW => by
      have hk := impl_route hs _ nm W (HXR6.out W hW).1 HN.out (by unfold maxLen; omega) (HXC6.out W hW).1.1.1
      rw [hrn] at hk
      exact hk
    have HRh : Hid (∀ W, Below w6.heap.size w6 W → Calls Tryz.prog 24 #[.agg #[.slice a1 hs.length c1], .string h.host] W fun e w' => e = .returned (.int .i64 R) ∧ Below W.heap.size W w') := Lib.hid fun W hW => by
      have hk := impl_route hs _ h.host W (HXR6.out W hW).1 HN.out (by unfold maxLen; omega) (HXC6.out W hW).1.1.1
      rw [hR] at hk
      exact hk
    clear hph hrn hR hb r0 r1 hv0 hb0 hcfg hxn hmn hnm hok b1 b2 b3 b4 hn hN hdz g0 g1 g2 g3 g4 hcl6 hpa hb6
    go_wp2_with fail
    refine wp_region_last (by kernel_rfl) 38 (by kernel_rfl) (by kernel_rfl) (by kernel_rfl)
      (fun z => { tmps := #[Value.slice a len cap, undef, Value.bool false, Value.pointer (some { block := w1.heap.size, off := 0 }), Value.pointer (some { block := w1.heap.size + 1, off := 0 }), Value.pointer (some { block := w3.heap.size, off := 0 }), Value.bool true, Value.pointer (some { block := w4.heap.size, off := 0 }), Value.bool true, Value.slice a len cap, Value.int IntKind.i64 ↑len, Value.bool (decide ((1048576 : Int) < (len : Int))), Value.tuple #[Value.agg #[Value.slice a1 hs.length c1], Value.agg #[Value.string h.verb, Value.string h.target, Value.string h.host, Value.slice a2 h.fs.length c2, Value.string h.body]], Value.slice a len cap, Value.tuple #[Value.agg #[Value.slice a1 hs.length c1], Value.agg #[Value.string h.verb, Value.string h.target, Value.string h.host, Value.slice a2 h.fs.length c2, Value.string h.body]], Value.agg #[Value.slice a1 hs.length c1], Value.agg #[Value.string h.verb, Value.string h.target, Value.string h.host, Value.slice a2 h.fs.length c2, Value.string h.body], Value.tuple #[Value.agg #[Value.string { data := #[112, 117, 116] }, Value.string h.target, Value.string nm, Value.slice a5 0 c5, Value.string h.body], Value.bool true], Value.agg #[Value.slice a1 hs.length c1], Value.agg #[Value.string h.verb, Value.string h.target, Value.string h.host, Value.slice a2 h.fs.length c2, Value.string h.body], Value.tuple #[Value.agg #[Value.string { data := #[112, 117, 116] }, Value.string h.target, Value.string nm, Value.slice a5 0 c5, Value.string h.body], Value.bool true], Value.agg #[Value.string { data := #[112, 117, 116] }, Value.string h.target, Value.string nm, Value.slice a5 0 c5, Value.string h.body], Value.bool true, Value.tuple #[Value.agg #[Value.string { data := #[112, 117, 116] }, Value.string h.target, Value.string nm, Value.slice a6 0 c6, Value.string h.body], Value.bool true], Value.agg #[Value.slice a1 hs.length c1], Value.agg #[Value.string h.verb, Value.string h.target, Value.string h.host, Value.slice a2 h.fs.length c2, Value.string h.body], Value.tuple #[Value.agg #[Value.string { data := #[112, 117, 116] }, Value.string h.target, Value.string nm, Value.slice a6 0 c6, Value.string h.body], Value.bool true], Value.agg #[Value.string { data := #[112, 117, 116] }, Value.string h.target, Value.string nm, Value.slice a6 0 c6, Value.string h.body], Value.bool true, Value.agg #[Value.string { data := #[112, 117, 116] }, Value.string h.target, Value.string nm, Value.slice a5 0 c5, Value.string h.body], Value.agg #[Value.string { data := #[112, 117, 116] }, Value.string h.target, Value.string nm, Value.slice a6 0 c6, Value.string h.body], Value.bool true, Value.bool false, Value.bool false, Value.bool true, Value.bool true, Value.bool false, Value.bool false, Value.bool true, Value.bool false, undef, undef, undef, undef, undef, undef, z 0, z 1, z 2, z 3, z 4, z 5, z 6, z 7, z 8, z 9, z 10, z 11, z 12, z 13, z 14, z 15, z 16, z 17, z 18, z 19, z 20, z 21, z 22, z 23, z 24, z 25, z 26, z 27, z 28, z 29, z 30, z 31, z 32, z 33, z 34, z 35, z 36, z 37], defers := [] })
      (fun _ W => Below w6.heap.size w6 W)
      (fun i x _ => x = [.agg #[.string ⟨#[112, 117, 116]⟩, .string h.target, .string nm, .slice a5 0 c5, .string h.body], .bool true, .bool true, .pointer (some ⟨w3.heap.size, 1, none⟩), .string h.target, .pointer (some ⟨w1.heap.size + 1, 1, none⟩), .string h.target, .bool true, .bool true, .bool true, .pointer (some ⟨w3.heap.size, 4, none⟩), .string h.body, .pointer (some ⟨w1.heap.size + 1, 4, none⟩), .string h.body, .bool true, .bool true, .bool true, .pointer (some ⟨w3.heap.size, 3, none⟩), .slice a5 0 c5, .int .i64 0, .bool true, .bool true, .bool true, .agg #[.slice a1 hs.length c1], .pointer (some ⟨w3.heap.size, 2, none⟩), .string nm, .int .i64 R, .agg #[.slice a1 hs.length c1], .pointer (some ⟨w1.heap.size + 1, 2, none⟩), .string h.host, .int .i64 R, .bool true, .bool true, .bool true, .pointer (some ⟨w3.heap.size, 0, none⟩), .string ⟨#[112, 117, 116]⟩, .bool true, .bool true].getD i undef) (fun _ _ => True) (fun _ => undef) (Below.refl _ _).drew (fun _ _ _ _ _ h _ => h) ?_ ?_
    · intro i hi' z W kk hk hC hd'
      match i, hi' with
      | 0, _ =>
        obtain ⟨q0, q1, q2, q3, q4, _⟩ := five_facts (HXC6.out W hC).2.2.2
        refine wpOp_step rfl (fun K hK => ?_)
        clear hd'
        go_simp
        exact hK _ _ ⟨.agg #[.string ⟨#[112, 117, 116]⟩, .string h.target, .string nm, .slice a5 0 c5, .string h.body], rfl, rfl, trivial, hC⟩
      | 1, _ =>
        have e0 : z 0 = .agg #[.string ⟨#[112, 117, 116]⟩, .string h.target, .string nm, .slice a5 0 c5, .string h.body] := hd' 0 (dep_of (by kernel_rfl))
        have hT := HHed.out W hC
        refine wpOp_step rfl (fun K hK => ?_)
        clear hd'
        go_simp
        refine hT.mono ?_
        rintro e w8 ⟨rfl, hb8⟩
        exact hK _ _ ⟨.bool true, by simp [upd, e0], rfl, trivial, hC.trans (hb8.mono hC.size)⟩
      | 2, _ =>
        have e1 : z 1 = .bool true := hd' 1 (dep_of (by kernel_rfl))
        refine wpOp_step rfl (fun K hK => ?_)
        clear hd'
        go_simp
        exact hK _ _ ⟨.bool true, by simp [upd, e1], rfl, trivial, hC⟩
      | 3, _ =>
        have e2 : z 2 = .bool true := hd' 2 (dep_of (by kernel_rfl))
        refine wpOp_step rfl (fun K hK => ?_)
        clear hd'
        go_simp
        exact hK _ _ ⟨.pointer (some ⟨w3.heap.size, 1, none⟩), by simp [upd, e2], rfl, trivial, hC⟩
      | 4, _ =>
        obtain ⟨q0, q1, q2, q3, q4, _⟩ := five_facts (HXC6.out W hC).2.2.2
        have e2 : z 2 = .bool true := hd' 2 (dep_of (by kernel_rfl))
        have e3 : z 3 = .pointer (some ⟨w3.heap.size, 1, none⟩) := hd' 3 (dep_of (by kernel_rfl))
        refine wpOp_step rfl (fun K hK => ?_)
        clear hd'
        go_simp
        exact hK _ _ ⟨.string h.target, by simp [upd, e2, e3], rfl, trivial, hC⟩
      | 5, _ =>
        have e2 : z 2 = .bool true := hd' 2 (dep_of (by kernel_rfl))
        refine wpOp_step rfl (fun K hK => ?_)
        clear hd'
        go_simp
        exact hK _ _ ⟨.pointer (some ⟨w1.heap.size + 1, 1, none⟩), by simp [upd, e2], rfl, trivial, hC⟩
      | 6, _ =>
        obtain ⟨q0, q1, q2, q3, q4, _⟩ := five_facts (HXC6.out W hC).2.2.1
        have e2 : z 2 = .bool true := hd' 2 (dep_of (by kernel_rfl))
        have e5 : z 5 = .pointer (some ⟨w1.heap.size + 1, 1, none⟩) := hd' 5 (dep_of (by kernel_rfl))
        refine wpOp_step rfl (fun K hK => ?_)
        clear hd'
        go_simp
        exact hK _ _ ⟨.string h.target, by simp [upd, e2, e5], rfl, trivial, hC⟩
      | 7, _ =>
        have e2 : z 2 = .bool true := hd' 2 (dep_of (by kernel_rfl))
        have e4 : z 4 = .string h.target := hd' 4 (dep_of (by kernel_rfl))
        have e6 : z 6 = .string h.target := hd' 6 (dep_of (by kernel_rfl))
        have er : (h.target.toList == h.target.toList) = true := by simp
        refine wpOp_step rfl (fun K hK => ?_)
        clear hd'
        go_simp
        exact hK _ _ ⟨.bool true, by simp [upd, e2, e4, e6], rfl, trivial, hC⟩
      | 8, _ =>
        have e2 : z 2 = .bool true := hd' 2 (dep_of (by kernel_rfl))
        have e7 : z 7 = .bool true := hd' 7 (dep_of (by kernel_rfl))
        refine wpOp_step rfl (fun K hK => ?_)
        clear hd'
        go_simp
        exact hK _ _ ⟨.bool true, by simp [upd, e2, e7], rfl, trivial, hC⟩
      | 9, _ =>
        have e8 : z 8 = .bool true := hd' 8 (dep_of (by kernel_rfl))
        refine wpOp_step rfl (fun K hK => ?_)
        clear hd'
        go_simp
        exact hK _ _ ⟨.bool true, by simp [upd, e8], rfl, trivial, hC⟩
      | 10, _ =>
        have e9 : z 9 = .bool true := hd' 9 (dep_of (by kernel_rfl))
        refine wpOp_step rfl (fun K hK => ?_)
        clear hd'
        go_simp
        exact hK _ _ ⟨.pointer (some ⟨w3.heap.size, 4, none⟩), by simp [upd, e9], rfl, trivial, hC⟩
      | 11, _ =>
        obtain ⟨q0, q1, q2, q3, q4, _⟩ := five_facts (HXC6.out W hC).2.2.2
        have e9 : z 9 = .bool true := hd' 9 (dep_of (by kernel_rfl))
        have e10 : z 10 = .pointer (some ⟨w3.heap.size, 4, none⟩) := hd' 10 (dep_of (by kernel_rfl))
        refine wpOp_step rfl (fun K hK => ?_)
        clear hd'
        go_simp
        exact hK _ _ ⟨.string h.body, by simp [upd, e9, e10], rfl, trivial, hC⟩
      | 12, _ =>
        have e9 : z 9 = .bool true := hd' 9 (dep_of (by kernel_rfl))
        refine wpOp_step rfl (fun K hK => ?_)
        clear hd'
        go_simp
        exact hK _ _ ⟨.pointer (some ⟨w1.heap.size + 1, 4, none⟩), by simp [upd, e9], rfl, trivial, hC⟩
      | 13, _ =>
        obtain ⟨q0, q1, q2, q3, q4, _⟩ := five_facts (HXC6.out W hC).2.2.1
        have e9 : z 9 = .bool true := hd' 9 (dep_of (by kernel_rfl))
        have e12 : z 12 = .pointer (some ⟨w1.heap.size + 1, 4, none⟩) := hd' 12 (dep_of (by kernel_rfl))
        refine wpOp_step rfl (fun K hK => ?_)
        clear hd'
        go_simp
        exact hK _ _ ⟨.string h.body, by simp [upd, e9, e12], rfl, trivial, hC⟩
      | 14, _ =>
        have e9 : z 9 = .bool true := hd' 9 (dep_of (by kernel_rfl))
        have e11 : z 11 = .string h.body := hd' 11 (dep_of (by kernel_rfl))
        have e13 : z 13 = .string h.body := hd' 13 (dep_of (by kernel_rfl))
        have er : (h.body.toList == h.body.toList) = true := by simp
        refine wpOp_step rfl (fun K hK => ?_)
        clear hd'
        go_simp
        exact hK _ _ ⟨.bool true, by simp [upd, e9, e11, e13], rfl, trivial, hC⟩
      | 15, _ =>
        have e9 : z 9 = .bool true := hd' 9 (dep_of (by kernel_rfl))
        have e14 : z 14 = .bool true := hd' 14 (dep_of (by kernel_rfl))
        refine wpOp_step rfl (fun K hK => ?_)
        clear hd'
        go_simp
        exact hK _ _ ⟨.bool true, by simp [upd, e9, e14], rfl, trivial, hC⟩
      | 16, _ =>
        have e15 : z 15 = .bool true := hd' 15 (dep_of (by kernel_rfl))
        refine wpOp_step rfl (fun K hK => ?_)
        clear hd'
        go_simp
        exact hK _ _ ⟨.bool true, by simp [upd, e15], rfl, trivial, hC⟩
      | 17, _ =>
        have e16 : z 16 = .bool true := hd' 16 (dep_of (by kernel_rfl))
        refine wpOp_step rfl (fun K hK => ?_)
        clear hd'
        go_simp
        exact hK _ _ ⟨.pointer (some ⟨w3.heap.size, 3, none⟩), by simp [upd, e16], rfl, trivial, hC⟩
      | 18, _ =>
        obtain ⟨q0, q1, q2, q3, q4, _⟩ := five_facts (HXC6.out W hC).2.2.2
        have e16 : z 16 = .bool true := hd' 16 (dep_of (by kernel_rfl))
        have e17 : z 17 = .pointer (some ⟨w3.heap.size, 3, none⟩) := hd' 17 (dep_of (by kernel_rfl))
        refine wpOp_step rfl (fun K hK => ?_)
        clear hd'
        go_simp
        exact hK _ _ ⟨.slice a5 0 c5, by simp [upd, e16, e17], rfl, trivial, hC⟩
      | 19, _ =>
        have e16 : z 16 = .bool true := hd' 16 (dep_of (by kernel_rfl))
        have e18 : z 18 = .slice a5 0 c5 := hd' 18 (dep_of (by kernel_rfl))
        refine wpOp_step rfl (fun K hK => ?_)
        clear hd'
        go_simp
        exact hK _ _ ⟨.int .i64 0, by simp [upd, e16, e18], rfl, trivial, hC⟩
      | 20, _ =>
        have e16 : z 16 = .bool true := hd' 16 (dep_of (by kernel_rfl))
        have e19 : z 19 = .int .i64 0 := hd' 19 (dep_of (by kernel_rfl))
        refine wpOp_step rfl (fun K hK => ?_)
        clear hd'
        go_simp
        exact hK _ _ ⟨.bool true, by simp [upd, e16, e19], rfl, trivial, hC⟩
      | 21, _ =>
        have e16 : z 16 = .bool true := hd' 16 (dep_of (by kernel_rfl))
        have e20 : z 20 = .bool true := hd' 20 (dep_of (by kernel_rfl))
        refine wpOp_step rfl (fun K hK => ?_)
        clear hd'
        go_simp
        exact hK _ _ ⟨.bool true, by simp [upd, e16, e20], rfl, trivial, hC⟩
      | 22, _ =>
        have e21 : z 21 = .bool true := hd' 21 (dep_of (by kernel_rfl))
        refine wpOp_step rfl (fun K hK => ?_)
        clear hd'
        go_simp
        exact hK _ _ ⟨.bool true, by simp [upd, e21], rfl, trivial, hC⟩
      | 23, _ =>
        obtain ⟨q0, _⟩ := one_fact (HXC6.out W hC).2.1
        have e22 : z 22 = .bool true := hd' 22 (dep_of (by kernel_rfl))
        refine wpOp_step rfl (fun K hK => ?_)
        clear hd'
        go_simp
        exact hK _ _ ⟨.agg #[.slice a1 hs.length c1], by simp [upd, e22], rfl, trivial, hC⟩
      | 24, _ =>
        have e22 : z 22 = .bool true := hd' 22 (dep_of (by kernel_rfl))
        refine wpOp_step rfl (fun K hK => ?_)
        clear hd'
        go_simp
        exact hK _ _ ⟨.pointer (some ⟨w3.heap.size, 2, none⟩), by simp [upd, e22], rfl, trivial, hC⟩
      | 25, _ =>
        obtain ⟨q0, q1, q2, q3, q4, _⟩ := five_facts (HXC6.out W hC).2.2.2
        have e22 : z 22 = .bool true := hd' 22 (dep_of (by kernel_rfl))
        have e24 : z 24 = .pointer (some ⟨w3.heap.size, 2, none⟩) := hd' 24 (dep_of (by kernel_rfl))
        refine wpOp_step rfl (fun K hK => ?_)
        clear hd'
        go_simp
        exact hK _ _ ⟨.string nm, by simp [upd, e22, e24], rfl, trivial, hC⟩
      | 26, _ =>
        have e22 : z 22 = .bool true := hd' 22 (dep_of (by kernel_rfl))
        have e23 : z 23 = .agg #[.slice a1 hs.length c1] := hd' 23 (dep_of (by kernel_rfl))
        have e25 : z 25 = .string nm := hd' 25 (dep_of (by kernel_rfl))
        have hT := HRn.out W hC
        refine wpOp_step rfl (fun K hK => ?_)
        clear hd'
        go_simp
        refine hT.mono ?_
        rintro e w8 ⟨rfl, hb8⟩
        exact hK _ _ ⟨.int .i64 R, by simp [upd, e22, e23, e25], rfl, trivial, hC.trans (hb8.mono hC.size)⟩
      | 27, _ =>
        obtain ⟨q0, _⟩ := one_fact (HXC6.out W hC).2.1
        have e22 : z 22 = .bool true := hd' 22 (dep_of (by kernel_rfl))
        refine wpOp_step rfl (fun K hK => ?_)
        clear hd'
        go_simp
        exact hK _ _ ⟨.agg #[.slice a1 hs.length c1], by simp [upd, e22], rfl, trivial, hC⟩
      | 28, _ =>
        have e22 : z 22 = .bool true := hd' 22 (dep_of (by kernel_rfl))
        refine wpOp_step rfl (fun K hK => ?_)
        clear hd'
        go_simp
        exact hK _ _ ⟨.pointer (some ⟨w1.heap.size + 1, 2, none⟩), by simp [upd, e22], rfl, trivial, hC⟩
      | 29, _ =>
        obtain ⟨q0, q1, q2, q3, q4, _⟩ := five_facts (HXC6.out W hC).2.2.1
        have e22 : z 22 = .bool true := hd' 22 (dep_of (by kernel_rfl))
        have e28 : z 28 = .pointer (some ⟨w1.heap.size + 1, 2, none⟩) := hd' 28 (dep_of (by kernel_rfl))
        refine wpOp_step rfl (fun K hK => ?_)
        clear hd'
        go_simp
        exact hK _ _ ⟨.string h.host, by simp [upd, e22, e28], rfl, trivial, hC⟩
      | 30, _ =>
        have e22 : z 22 = .bool true := hd' 22 (dep_of (by kernel_rfl))
        have e27 : z 27 = .agg #[.slice a1 hs.length c1] := hd' 27 (dep_of (by kernel_rfl))
        have e29 : z 29 = .string h.host := hd' 29 (dep_of (by kernel_rfl))
        have hT := HRh.out W hC
        refine wpOp_step rfl (fun K hK => ?_)
        clear hd'
        go_simp
        refine hT.mono ?_
        rintro e w8 ⟨rfl, hb8⟩
        exact hK _ _ ⟨.int .i64 R, by simp [upd, e22, e27, e29], rfl, trivial, hC.trans (hb8.mono hC.size)⟩
      | 31, _ =>
        have e22 : z 22 = .bool true := hd' 22 (dep_of (by kernel_rfl))
        have e26 : z 26 = .int .i64 R := hd' 26 (dep_of (by kernel_rfl))
        have e30 : z 30 = .int .i64 R := hd' 30 (dep_of (by kernel_rfl))
        refine wpOp_step rfl (fun K hK => ?_)
        clear hd'
        go_simp
        exact hK _ _ ⟨.bool true, by simp [upd, e22, e26, e30], rfl, trivial, hC⟩
      | 32, _ =>
        have e22 : z 22 = .bool true := hd' 22 (dep_of (by kernel_rfl))
        have e31 : z 31 = .bool true := hd' 31 (dep_of (by kernel_rfl))
        refine wpOp_step rfl (fun K hK => ?_)
        clear hd'
        go_simp
        exact hK _ _ ⟨.bool true, by simp [upd, e22, e31], rfl, trivial, hC⟩
      | 33, _ =>
        have e32 : z 32 = .bool true := hd' 32 (dep_of (by kernel_rfl))
        refine wpOp_step rfl (fun K hK => ?_)
        clear hd'
        go_simp
        exact hK _ _ ⟨.bool true, by simp [upd, e32], rfl, trivial, hC⟩
      | 34, _ =>
        have e33 : z 33 = .bool true := hd' 33 (dep_of (by kernel_rfl))
        refine wpOp_step rfl (fun K hK => ?_)
        clear hd'
        go_simp
        exact hK _ _ ⟨.pointer (some ⟨w3.heap.size, 0, none⟩), by simp [upd, e33], rfl, trivial, hC⟩
      | 35, _ =>
        obtain ⟨q0, q1, q2, q3, q4, _⟩ := five_facts (HXC6.out W hC).2.2.2
        have e33 : z 33 = .bool true := hd' 33 (dep_of (by kernel_rfl))
        have e34 : z 34 = .pointer (some ⟨w3.heap.size, 0, none⟩) := hd' 34 (dep_of (by kernel_rfl))
        refine wpOp_step rfl (fun K hK => ?_)
        clear hd'
        go_simp
        exact hK _ _ ⟨.string ⟨#[112, 117, 116]⟩, by simp [upd, e33, e34], rfl, trivial, hC⟩
      | 36, _ =>
        have e33 : z 33 = .bool true := hd' 33 (dep_of (by kernel_rfl))
        have e35 : z 35 = .string ⟨#[112, 117, 116]⟩ := hd' 35 (dep_of (by kernel_rfl))
        refine wpOp_step rfl (fun K hK => ?_)
        clear hd'
        go_simp
        exact hK _ _ ⟨.bool true, by simp [upd, e33, e35], rfl, trivial, hC⟩
      | 37, _ =>
        have e33 : z 33 = .bool true := hd' 33 (dep_of (by kernel_rfl))
        have e36 : z 36 = .bool true := hd' 36 (dep_of (by kernel_rfl))
        refine wpOp_step rfl (fun K hK => ?_)
        clear hd'
        go_simp
        exact hK _ _ ⟨.bool true, by simp [upd, e33, e36], rfl, trivial, hC⟩
      | n + 38, hn => exact absurd hn (by omega)
    · intro z W kk hk hC hd'
      have e37 : z 37 = .bool true := hd' 37 (by decide)
      have HF := Lib.hid (HXC6.out W hC).1.2
      refine wpOp_step rfl (fun K hK => ?_)
      clear hd' hC
      go_simp
      refine hK _ _ ?_
      clear hK K
      go_wp2
      go_ret
      exact ⟨rfl, HF.out⟩
  · have hpa : putAsk hs h = (noHd, false) := by unfold putAsk; rw [if_neg hb]
    rw [hpa] at hI HS
    unfold HRet2 headV noHd at hI HS
    dsimp only at hI HS
    have HU : Hid True := Lib.hid trivial
    go_wp2_with fail
    rw [← HW2.out]
    refine hI.mono ?_
    rintro e w3 ⟨⟨vr, rfl, ho⟩, hb3⟩
    obtain ⟨a5, c5, hv⟩ := own_len2 ho
    subst hv
    have hr3 : FRow w3 (.slice a5 0 c5) [] := frow_own' (fs := []) ho
    obtain ⟨w3b, hw3b⟩ : ∃ x, x = w3.alloc (.cells #[.string ⟨#[]⟩, .string ⟨#[]⟩, .string ⟨#[]⟩, .slice a5 0 c5, .string ⟨#[]⟩] 40) := ⟨_, rfl⟩
    have hs3b : w3b.heap.size = w3.heap.size + 1 := by rw [hw3b]; simp
    have hb3b : Below w3.heap.size w3 w3b := by rw [hw3b]; exact (Below.refl _ _).alloc (Nat.le_refl _) _
    have hY3 : w3b.heap[w3.heap.size]? = some (.cells #[.string ⟨#[]⟩, .string ⟨#[]⟩, .string ⟨#[]⟩, .slice a5 0 c5, .string ⟨#[]⟩] 40 (0, 0)) := by rw [hw3b]; exact heap_alloc_new w3 _
    have hr3b := hr3.below (Nat.le_refl _) hb3b
    have hD3 := hb3.trans (hb3b.mono hb3.size)
    have hz3 := hb3.size
    obtain ⟨_, _, _, k4, k5, _⟩ := HXA.out _ hD3
    clear x0 x1 x2 x3 x4 x5
    obtain ⟨x0, _⟩ := one_fact k4
    obtain ⟨x1, x2, x3, x4, x5, _⟩ := five_facts k5
    have hS := HS.out w3b hD3
    have HW3 := Lib.hid hw3b
    rw [hw3b] at x0 x1 x2 x3 x4 x5
    clear hI HS ho hb3 hr3 hw3b hb3b k4 k5
    go_wp2_with fail
    rw [← HW3.out]
    refine hS.mono ?_
    rintro e w4 ⟨⟨vr, rfl, ho⟩, hb4⟩
    obtain ⟨a6, c6, hv⟩ := own_len2 ho
    subst hv
    have hr4 : FRow w4 (.slice a6 0 c6) [] := frow_own' (fs := []) ho
    obtain ⟨w4b, hw4b⟩ : ∃ x, x = w4.alloc (.cells #[.string ⟨#[]⟩, .string ⟨#[]⟩, .string ⟨#[]⟩, .slice a6 0 c6, .string ⟨#[]⟩] 40) := ⟨_, rfl⟩
    have hs4b : w4b.heap.size = w4.heap.size + 1 := by rw [hw4b]; simp
    have hb4b : Below w4.heap.size w4 w4b := by rw [hw4b]; exact (Below.refl _ _).alloc (Nat.le_refl _) _
    have hY4 : w4b.heap[w4.heap.size]? = some (.cells #[.string ⟨#[]⟩, .string ⟨#[]⟩, .string ⟨#[]⟩, .slice a6 0 c6, .string ⟨#[]⟩] 40 (0, 0)) := by rw [hw4b]; exact heap_alloc_new w4 _
    have hr4b := hr4.below (Nat.le_refl _) hb4b
    have hE4 := hb4.trans (hb4b.mono hb4.size)
    have hD4 := hD3.trans (hE4.mono hD3.size)
    have hY34 := (hE4.block w3.heap.size (by omega)).trans hY3
    have hr34 := hr3b.below (Nat.le_refl _) hE4
    have HXC : Hid (∀ W, Below w4b.heap.size w4b W → ((Cls W ∧ Tab W) ∧ Below w.heap.size w W) ∧ W.heap[w1.heap.size]? = some (.cells #[.slice a1 hs.length c1] 25 (0, 0)) ∧ W.heap[w1.heap.size + 1]? = some (.cells #[.string h.verb, .string h.target, .string h.host, .slice a2 h.fs.length c2, .string h.body] 40 (0, 0)) ∧ W.heap[w3.heap.size]? = some (.cells #[.string ⟨#[]⟩, .string ⟨#[]⟩, .string ⟨#[]⟩, .slice a5 0 c5, .string ⟨#[]⟩] 40 (0, 0))) := Lib.hid fun W hW => by
      obtain ⟨k1, _, _, k4, k5, k6⟩ := HXA.out _ (hD4.trans (hW.mono hD4.size))
      exact ⟨⟨k1, k6⟩, k4, k5, heap_keep hW (Nat.le_refl _) _ _ hY34⟩
    have HXR : Hid (∀ W, Below w4b.heap.size w4b W → HRow W (.slice a1 hs.length c1) hs ∧ FRow W (.slice a5 0 c5) []) := Lib.hid fun W hW => ⟨(HXA.out _ (hD4.trans (hW.mono hD4.size))).2.1, hr34.below (Nat.le_refl _) hW⟩
    obtain ⟨g0, g1, g2, g3, g4, _⟩ := five_facts hY34
    obtain ⟨z0, z1, z2, z3, z4, _⟩ := five_facts hY4
    have hG := gd_head ⟨⟨#[]⟩, ⟨#[]⟩, ⟨#[]⟩, [], ⟨#[]⟩⟩ _ _ w4b hr34 hr4b (Nat.zero_le _)
    unfold headV at hG
    dsimp only at hG
    have HW4 := Lib.hid hw4b
    rw [hw4b] at g0 g1 g2 g3 g4 z0 z1 z2 z3 z4
    clear hS ho hb4 hr4 hw4b hb4b hY3 hr3b hE4 hD3 hD4 hY34 hr34 hY4 hr4b x0 x1 x2 x3 x4 x5
    go_wp2_with fail
    rw [← HW4.out]
    refine hG.mono ?_
    rintro e w6 ⟨rfl, hb6⟩
    obtain ⟨_, _, _, k9⟩ := HXC.out _ hb6
    clear g0 g1 g2 g3 g4 z0 z1 z2 z3 z4 hG
    obtain ⟨g0, g1, g2, g3, g4, _⟩ := five_facts k9
    clear k9
    go_wp2_with fail
    refine (gd_ok w6 (HXC.out _ hb6).1.1.1).mono ?_
    rintro e w7 ⟨rfl, rfl⟩
    have HB := Lib.hid (HXC.out _ hb6).1.2
    clear hb6 g0 g1 g2 g3 g4
    go_wp2
    go_ret
    exact ⟨rfl, HB.out⟩
namespace Lw
theorem fnPutAsk (w : World) (hL : laidMetH Tryz.prog Rows.fnPutAskRow.laid w) (a : Option Addr) (len cap : Nat) (zs : List Int) (h : IsRow .u8 w a len cap zs) :
    Calls Tryz.prog 6 #[.slice a len cap] w fun e w' => e = .returned (.bool true) ∧ Below w.heap.size w w' := by
  have hL' : laidMet Tryz.prog Rows.fnPutAskRow.laid w := hL
  exact law_putdrawn a len cap zs w h (cls_of_head hL'.tail.tail.tail.tail) (tab_of_head hL'.tail.tail)
end Lw
end Go.Proofs.YtiepobifbkleaaaGreatDoor


/- Walks: the drawing of inputs: the reader of a code. -/
import Derived.Test.YtbhnjnoblkfckabDoorOwn
import Derived.Test.YtbhnjnoblkfckabDoorRows
import Derived.WalkKit
import Derived.WalkSpells
import Derived.WalkLawsBesides
import Derived.BigQuiet
import Derived.Deep.RegionWith
import Derived.Lib.Hide
import Derived.IntWalk
import Derived.Laws.BitsAllLaws
import Derived.Laws.BitsLemmas
namespace Go.Proofs.YtbhnjnoblkfckabDoor
open Go.RowKit

/-- The code that a reader stands over: nothing, or a row of bytes below block B. -/
def CodeAt (w : World) (B : Nat) (A : Option Addr) (n c : Nat) : Prop :=
  n = 0 ∨ ∃ b o, A = some ⟨b, o, none⟩ ∧ b < B ∧ n ≤ 2000 ∧ n ≤ c ∧ c ≤ maxLen ∧ ∀ j, j < n → ∃ x : UInt8, w.cell? ⟨b, o + j, none⟩ = some (.int .u8 (x.toNat : Int))

/-- A reader at block g, that has picked at most m times. -/
def RdAt (w : World) (B g m : Nat) : Prop :=
  B ≤ g ∧ ∃ A n c p, w.heap[g]? = some (.cells #[.slice A n c, .int .i64 ((p : Nat) : Int)] 47 (0, 0)) ∧ p ≤ m ∧ CodeAt w B A n c

theorem CodeAt.keep {w w' : World} {B : Nat} {A : Option Addr} {n c : Nat} (h : CodeAt w B A n c) (hk : ∀ b, b < B → w'.heap[b]? = w.heap[b]?) : CodeAt w' B A n c := by
  rcases h with h | ⟨b, o, rfl, h1, h2, h3, h4, h5⟩
  · exact .inl h
  · refine .inr ⟨b, o, rfl, h1, h2, h3, h4, fun j hj => ?_⟩
    obtain ⟨x, hx⟩ := h5 j hj
    exact ⟨x, (World.cell?_of_block (w := w) (hk b h1)).trans hx⟩

theorem RdAt.keep {w w' : World} {B g m : Nat} (h : RdAt w B g m) (hk : ∀ b, b ≤ g → w'.heap[b]? = w.heap[b]?) : RdAt w' B g m := by
  obtain ⟨h1, A, n, c, p, h2, h3, h4⟩ := h
  exact ⟨h1, A, n, c, p, (hk g (Nat.le_refl _)).trans h2, h3, h4.keep fun b hb => hk b (by omega)⟩
theorem RdAt.lt {w : World} {B g m : Nat} (h : RdAt w B g m) : g < w.heap.size := by
  obtain ⟨_, A, n, c, p, h2, _⟩ := h
  rcases Nat.lt_or_ge g w.heap.size with hlt | hge
  · exact hlt
  · rw [Array.getElem?_eq_none hge] at h2; cases h2
theorem RdAt.drewN {w : World} {B g m : Nat} (h : RdAt w B g m) (k : Nat) : RdAt (w.drewN k) B g m := h
theorem RdAt.drew {w : World} {B g m : Nat} (h : RdAt w B g m) : RdAt w.drew B g m := h
theorem RdAt.alloc {w : World} {B g m : Nat} (h : RdAt w B g m) (o : Obj) : RdAt (w.alloc o) B g m := h.keep fun b hb => Below.heap_alloc w o b (Nat.lt_of_le_of_lt hb h.lt)
theorem RdAt.mono {w : World} {B g m m' : Nat} (h : RdAt w B g m) (hm : m ≤ m') : RdAt w B g m' := by
  obtain ⟨h1, A, n, c, p, h2, h3, h4⟩ := h
  exact ⟨h1, A, n, c, p, h2, by omega, h4⟩

/-- What a draw leaves: the reader has gone on, and nothing else that was there has turned. -/
def Drawn (w w' : World) (B g m : Nat) : Prop := RdAt w' B g m ∧ w.grownBy w' (some g)

theorem xor_shift (x : Nat) (hx : x < 2 ^ 62) : bits .xor .i64 (x : Int) ((x : Int) / 64) = ((x ^^^ (x / 64) : Nat) : Int) := by
  have h1 : x ^^^ (x / 64) < 2 ^ 63 := Nat.xor_lt_two_pow (by omega) (by omega)
  have e : ((x : Int) / 64) = ((x / 64 : Nat) : Int) := by omega
  rw [e]
  show IntKind.i64.wrap ((BitVec.ofInt 64 (x : Int) ^^^ BitVec.ofInt 64 ((x / 64 : Nat) : Int)).toNat : Int) = _
  have o (a : Nat) (ha : a < 9223372036854775808) : (BitVec.ofInt 64 (a : Int)).toNat = a := by
    rw [BitVec.ofInt_natCast, BitVec.toNat_ofNat]; exact Nat.mod_eq_of_lt (by omega)
  rw [BitVec.toNat_xor, o x (by omega), o (x / 64) (by omega), IntKind.wrap_i64]
  omega

theorem set_drawn {w : World} {B g m : Nat} {A : Option Addr} {n c p : Nat} (hB : B ≤ g) (hg : w.heap[g]? = some (.cells #[.slice A n c, .int .i64 (p : Int)] 47 (0, 0))) (hp : p ≤ m) (hcode : CodeAt w B A n c) :
    Drawn w (w.setCell ⟨g, 1, none⟩ (.int .i64 ((p : Int) + 1))) B g (m + 1) := by
  refine ⟨⟨hB, A, n, c, p + 1, ?_, by omega, hcode.keep fun b hb => heap_setCell_other w ⟨g, 1, none⟩ b _ (by simp; omega)⟩, ⟨rfl, rfl, rfl, by simp, fun k _ hk => heap_setCell_other w ⟨g, 1, none⟩ k _ (fun e => hk (by simp [e]))⟩⟩
  rw [heap_setCell_same w g 1 _ _ _ hg]
  simp

def Picked (q : Int) (w : World) (B g m : Nat) (e : Ending) (w' : World) : Prop := ∃ r : Nat, e = .returned (.int .i64 (r : Int)) ∧ (r : Int) < max q 1 ∧ Drawn w w' B g m

set_option maxHeartbeats 400000 in
theorem pick_any (g : Nat) (q : Int) (B m : Nat) (w : World) (hm : m ≤ 1000000) (hq : q ≤ 1000000) (h : RdAt w B g m) :
    Calls Tryd.prog 13 #[.pointer (some ⟨g, 0, none⟩), .int .i64 q] w (Picked q w B g (m + 1)) := by
  obtain ⟨hB, A, n, c, p, hg, hp, hcode⟩ := h
  have c0 : w.cell? ⟨g, 0, none⟩ = some (.slice A n c) := by simp [World.cell?, hg]
  have c1 : w.cell? ⟨g, 1, none⟩ = some (.int .i64 (p : Int)) := by simp [World.cell?, hg]
  have f1 : w.frozen? ⟨g, 1, none⟩ = false := by simp [World.frozen?, hg]
  by_cases hq1 : q < 1
  · go_enter Tryd.func13, Tryd.ntmps13
    go_wp2
    go_ret
    exact ⟨0, rfl, by omega, set_drawn hB hg hp hcode⟩
  · by_cases hn0 : n = 0
    · subst hn0
      go_enter Tryd.func13, Tryd.ntmps13
      go_wp2
      go_ret
      exact ⟨0, rfl, by omega, set_drawn hB hg hp hcode⟩
    · obtain ⟨b, o, rfl, hb, hn, hnc, hcm, hx⟩ := hcode.resolve_left hn0
      have hfin := set_drawn hB hg hp hcode
      obtain ⟨W, hW⟩ : ∃ W, W = w.setCell ⟨g, 1, none⟩ (.int .i64 ((p : Int) + 1)) := ⟨_, rfl⟩
      rw [← hW] at hfin
      by_cases hlt : p < n
      · obtain ⟨x, hcx⟩ := hx p hlt
        have hx8 := x.toNat_lt
        subst hW
        go_enter Tryd.func13, Tryd.ntmps13
        go_wp2
        go_ret
        refine ⟨x.toNat % q.toNat, ?_, ?_, hfin⟩
        · have : ((x.toNat % q.toNat : Nat) : Int) = (x.toNat : Int) % q := by rw [Int.natCast_emod, Int.toNat_of_nonneg (by omega)]
          rw [this]; rfl
        · have := Nat.mod_lt x.toNat (show 0 < q.toNat by omega); omega
      · obtain ⟨x1, hc1⟩ := hx (p % n) (Nat.mod_lt _ (by omega))
        obtain ⟨x2, hc2⟩ := hx ((p * 7 + 3) % n) (Nat.mod_lt _ (by omega))
        have hx18 := x1.toNat_lt
        have hx28 := x2.toNat_lt
        subst hW
        have hnp : (0 : Int) < (n : Int) := by omega
        have t1 : (p : Int).tmod (n : Int) = (p : Int) % (n : Int) := Int.tmod_eq_emod_of_nonneg (by omega)
        have t2 : IntKind.i64.wrap ((p : Int) * 7) = (p : Int) * 7 := IntWalk.i64_in _ (by omega)
        have t3 : IntKind.i64.wrap ((p : Int) * 7 + 3) = (p : Int) * 7 + 3 := IntWalk.i64_in _ (by omega)
        have t4 : ((p : Int) * 7 + 3).tmod (n : Int) = ((p : Int) * 7 + 3) % (n : Int) := Int.tmod_eq_emod_of_nonneg (by omega)
        have z1 : (p : Int) % (n : Int) < (n : Int) := Int.emod_lt_of_pos _ hnp
        have z2 : ((p : Int) * 7 + 3) % (n : Int) < (n : Int) := Int.emod_lt_of_pos _ hnp
        have z3 : 0 ≤ (p : Int) % (n : Int) := Int.emod_nonneg _ (by omega)
        have z4 : 0 ≤ ((p : Int) * 7 + 3) % (n : Int) := Int.emod_nonneg _ (by omega)
        have z7 : 0 ≤ (p : Int) / (n : Int) := Int.ediv_nonneg (by omega) (by omega)
        have z8 : (p : Int) / (n : Int) ≤ 1000000 := by have := Int.ediv_le_self (n : Int) (show 0 ≤ (p : Int) by omega); omega
        have z5 : ((p : Int) % (n : Int)).toNat = p % n := rfl
        have z6 : (((p : Int) * 7 + 3) % (n : Int)).toNat = (p * 7 + 3) % n := rfl
        go_enter Tryd.func13, Tryd.ntmps13
        go_wp2_with fail
        go_quiet (fail)
        generalize hX : (x1.toNat : Int) * 131 + (x2.toNat : Int) * 1117 + (p : Int) * 29 + (p : Int) / (n : Int) * 53 = X
        have hX0 : 0 ≤ X := by omega
        have hX1 : X < 4611686018427387904 := by omega
        clear hX
        obtain ⟨Y, rfl⟩ := Int.eq_ofNat_of_zero_le hX0
        have hxs := xor_shift Y (by omega)
        go_wp2
        go_ret
        generalize Y ^^^ Y / 64 = Z
        refine ⟨Z % q.toNat, ?_, ?_, hfin.1.drewN _, grown_drewN hfin.2 _⟩
        · have : ((Z % q.toNat : Nat) : Int) = (Z : Int) % q := by rw [Int.natCast_emod, Int.toNat_of_nonneg (by omega)]
          rw [this]; rfl
        · have := Nat.mod_lt Z (show 0 < q.toNat by omega); omega

theorem Drawn.trans {w w1 w2 : World} {B g m m' : Nat} (h : Drawn w w1 B g m) (k : Drawn w1 w2 B g m') : Drawn w w2 B g m' := ⟨k.1, grown_trans h.2 k.2⟩
theorem Drawn.drewN {w w1 : World} {B g m : Nat} (h : Drawn w w1 B g m) (n : Nat) : Drawn w (w1.drewN n) B g m := ⟨h.1.drewN n, grown_drewN h.2 n⟩
theorem Drawn.drew {w w1 : World} {B g m : Nat} (h : Drawn w w1 B g m) : Drawn w w1.drew B g m := h.drewN 1
theorem Drawn.mono {w w1 : World} {B g m m' : Nat} (h : Drawn w w1 B g m) (hm : m ≤ m') : Drawn w w1 B g m' := ⟨h.1.mono hm, h.2⟩
theorem Drawn.refl {w : World} {B g m : Nat} (h : RdAt w B g m) : Drawn w w B g m := ⟨h, World.grownBy.refl _ _⟩
theorem Drawn.alloc {w w1 : World} {B g m : Nat} (h : Drawn w w1 B g m) (o : Obj) : Drawn w (w1.alloc o) B g m := ⟨h.1.alloc o, grown_trans h.2 (World.grownBy_alloc _ _ _)⟩
/-- A draw that began behind a new block. -/
theorem Drawn.of_alloc {w w1 : World} {B g m : Nat} {o : Obj} (h : Drawn (w.alloc o) w1 B g m) : Drawn w w1 B g m := ⟨h.1, grown_trans (World.grownBy_alloc w o _) h.2⟩
theorem Drawn.of_drewN {w w1 : World} {B g m n : Nat} (h : Drawn (w.drewN n) w1 B g m) : Drawn w w1 B g m := ⟨h.1, ⟨h.2.os, h.2.tape, h.2.output, h.2.size, h.2.block⟩⟩
theorem Drawn.of_drew {w w1 : World} {B g m : Nat} (h : Drawn w.drew w1 B g m) : Drawn w w1 B g m := Drawn.of_drewN (n := 1) h

end Go.Proofs.YtbhnjnoblkfckabDoor

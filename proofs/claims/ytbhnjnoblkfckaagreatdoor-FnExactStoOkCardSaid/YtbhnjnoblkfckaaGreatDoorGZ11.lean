import Derived.Test.YtbhnjnoblkfckaaGreatDoorGZ10
import Derived.Deep.RegionHeld3
import Derived.Test.YtbhnjnoblkfckaaGreatDoorGZ09
-- from XDraw3
/- Walks: the drawing of texts, whole. -/
namespace Go.Proofs.YtbhnjnoblkfckaaGreatDoor
open Go.RowKit

theorem DrawnStr.mono {K K' m m' : Nat} {w : World} {B g : Nat} {e : Ending} {w' : World} (h : DrawnStr K w B g m e w') (hK : K ≤ K') (hm : m ≤ m') : DrawnStr K' w B g m' e w' := by
  obtain ⟨s, h1, h2, h3⟩ := h
  exact ⟨s, h1, by omega, h3.mono hm⟩

def BytesL : List Value → Prop
  | [] => True
  | v :: l => (∃ x : UInt8, v = .int .u8 (x.toNat : Int)) ∧ BytesL l
theorem bytes_at : ∀ {l : List Value} {r : Nat}, BytesL l → r < l.length → ∃ x : UInt8, l[r]? = some (.int .u8 (x.toNat : Int))
  | [], r, _, h => by simp at h
  | v :: l, 0, h, _ => by obtain ⟨⟨x, rfl⟩, _⟩ := h; exact ⟨x, rfl⟩
  | v :: l, r + 1, h, hr => by simpa using bytes_at (l := l) (r := r) h.2 (by simp at hr; omega)
theorem lit_byte {w w1 : World} {B g m : Nat} {cs : Array Value} {T : TypeId} (hd : Drawn (w.alloc (.cells cs T)) w1 B g m) (hg : g < w.heap.size) (hok : BytesL cs.toList) (r : Nat) (hr : r < cs.size) :
    ∃ x : UInt8, w1.cell? ⟨w.heap.size, r, none⟩ = some (.int .u8 (x.toNat : Int)) := by
  obtain ⟨x, h1⟩ := bytes_at hok (r := r) (by simpa using hr)
  refine ⟨x, ?_⟩
  have hb : w1.heap[w.heap.size]? = some (.cells cs T (0, 0)) := (hd.2.block w.heap.size (by simp) (by simp; omega)).trans (heap_alloc_new w _)
  rw [cell_of_row w1 w.heap.size r cs T (0, 0) hb, ← Array.getElem?_toList, h1]

theorem lit_cell {w w1 : World} {B g m : Nat} {cs : Array Value} {T : TypeId} {u : Value} {r : Nat} (hd : Drawn (w.alloc (.cells cs T)) w1 B g m) (hg : g < w.heap.size) (hx : cs[r]? = some u) : w1.cell? ⟨w.heap.size, r, none⟩ = some u := by
  have hb : w1.heap[w.heap.size]? = some (.cells cs T (0, 0)) := (hd.2.block w.heap.size (by simp) (by simp; omega)).trans (heap_alloc_new w _)
  rw [cell_of_row w1 w.heap.size r cs T (0, 0) hb, hx]
theorem new_cell (w : World) {cs : Array Value} (T : TypeId) {u : Value} {r : Nat} (hx : cs[r]? = some u) : (w.alloc (.cells cs T)).cell? ⟨w.heap.size, r, none⟩ = some u := by
  rw [cell_of_row _ w.heap.size r cs T (0, 0) (heap_alloc_new w _), hx]

theorem wrap_u8_nat (r : Nat) (h : r < 256) : IntKind.u8.wrap (r : Int) = (r : Int) := by simp [IntKind.wrap, IntKind.bits, IntKind.signed]; omega
theorem lit_list {cs : List Value} {r : Nat} {u : Value} (h : (cs.toArray)[r]? = some u) : cs[r]? = some u := by simpa using h
theorem Drawn.below {w w' : World} {B g m : Nat} (h : Drawn w w' B g m) (hg : g < w.heap.size) : Below B w w' := by
  refine ⟨h.2.os, h.2.tape, h.2.output, h.2.size, fun k hk => ?_⟩
  exact h.2.block k (by have := h.1.1; omega) (by have := h.1.1; simp; omega)
theorem pick_lit (g : Nat) (q : Int) (n : Nat) (hqn : q = n) (hn : 1 ≤ n) (B m : Nat) (w : World) (hm : m ≤ 1000000) (hq : n ≤ 1000000) (h : RdAt w B g m) :
    Calls Tryz.prog 87 #[.pointer (some ⟨g, 0, none⟩), .int .i64 q] w fun e w' => ∃ r : Nat, e = .returned (.int .i64 (r : Int)) ∧ r < n ∧ (r : Int) < q ∧ Drawn w w' B g (m + 1) := by
  refine (pick_any g q B m w hm (by omega) h).mono ?_
  rintro e w' ⟨r, h1, h2, h3⟩
  exact ⟨r, h1, by omega, by omega, h3⟩

end Go.Proofs.YtbhnjnoblkfckaaGreatDoor

-- from XRegR
/- What the operations of a drawing region leave: literals, numbers, texts, variables; each stays while the reader goes on. -/
namespace Go.Proofs.YtbhnjnoblkfckaaGreatDoor
open Go.RowKit

/-- What stays while the reader at block g goes on and new blocks come. -/
def Stay (g : Nat) (R : Value → World → Prop) : Prop := ∀ v w w', R v w → w.grownBy w' (some g) → R v w'
def REq (x : Value) : Value → World → Prop := fun v _ => v = x
def RLit (g n : Nat) (cs : Array Value) (T : TypeId) : Value → World → Prop := fun v w => ∃ b, v = .slice (some ⟨b, 0, none⟩) n n ∧ b ≠ g ∧ w.heap[b]? = some (.cells cs T (0, 0))
def RNum (n : Nat) : Value → World → Prop := fun v _ => ∃ r : Nat, v = .int .i64 (r : Int) ∧ r < n
def RCell (g K : Nat) : Value → World → Prop := fun v w => ∃ b r s, v = .pointer (some ⟨b, r, none⟩) ∧ b ≠ g ∧ w.cell? ⟨b, r, none⟩ = some (.string s) ∧ s.size ≤ K
def RStr (K : Nat) : Value → World → Prop := fun v _ => ∃ s : ByteArray, v = .string s ∧ s.size ≤ K
def RVar (g B : Nat) (x y : Value) (T : TypeId) : Value → World → Prop := fun v w => ∃ b, v = .pointer (some ⟨b, 0, none⟩) ∧ g < b ∧ B ≤ b ∧ w.heap[b]? = some (.cells #[x, y] T (0, 0))
def RPair (K : Nat) : Value → World → Prop := fun v _ => ∃ s t : ByteArray, v = .agg #[.string s, .string t] ∧ s.size ≤ K ∧ t.size ≤ K

theorem stay_eq (g : Nat) (x : Value) : Stay g (REq x) := fun _ _ _ h _ => h
theorem stay_num (g n : Nat) : Stay g (RNum n) := fun _ _ _ h _ => h
theorem stay_str (g K : Nat) : Stay g (RStr K) := fun _ _ _ h _ => h
theorem stay_pair (g K : Nat) : Stay g (RPair K) := fun _ _ _ h _ => h
theorem block_keep {w w' : World} {g b : Nat} {o : Obj} (hb : b ≠ g) (h : w.heap[b]? = some o) (hg : w.grownBy w' (some g)) : w'.heap[b]? = some o :=
  (hg.block b (Array.getElem?_eq_some_iff.1 h).1 (fun e => hb (by injection e))).trans h
theorem stay_lit (g n : Nat) (cs : Array Value) (T : TypeId) : Stay g (RLit g n cs T) := fun _ _ _ ⟨b, h1, h2, h3⟩ hg => ⟨b, h1, h2, block_keep h2 h3 hg⟩
theorem stay_cell (g K : Nat) : Stay g (RCell g K) := fun _ _ _ ⟨b, r, s, h1, h2, h3, h4⟩ hg => ⟨b, r, s, h1, h2, hg.cell h3 (fun e => h2 (by injection e)), h4⟩
theorem stay_var (g B : Nat) (x y : Value) (T : TypeId) : Stay g (RVar g B x y T) := fun _ _ _ ⟨b, h1, h2, h3, h4⟩ hg => ⟨b, h1, h2, h3, block_keep (by omega) h4 hg⟩

def RAt (Rs : List (Value → World → Prop)) (i : Nat) : Value → World → Prop := Rs.getD i (fun _ _ => True)
def StayAll (g : Nat) : List (Value → World → Prop) → Prop
  | [] => True
  | r :: rs => Stay g r ∧ StayAll g rs
theorem stay_at {g : Nat} : ∀ {Rs : List (Value → World → Prop)} {i : Nat}, StayAll g Rs → Stay g (RAt Rs i)
  | [], i, _ => fun _ _ _ _ _ => by simp [RAt]
  | r :: rs, 0, h => by simpa [RAt] using h.1
  | r :: rs, i + 1, h => by simpa [RAt] using stay_at (Rs := rs) (i := i) h.2


/-- A literal's cell at a place. -/
theorem lit_at {w : World} {b r K : Nat} {cs : Array Value} {T : TypeId} (h : w.heap[b]? = some (.cells cs T (0, 0))) (hok : strsOk cs K = true) (hr : r < cs.size) : ∃ s : ByteArray, w.cell? ⟨b, r, none⟩ = some (.string s) ∧ s.size ≤ K := by
  obtain ⟨s, h1, h2⟩ := strs_at hok hr
  exact ⟨s, by rw [cell_of_row w b r cs T (0, 0) h, h1], h2⟩

/-- The world of a region: the reader has gone on. -/
def CAtK (w0 : World) (B g m c : Nat) : Nat → World → Prop := fun k w => Drawn w0 w B g (m + c * k) ∧ g < w0.heap.size
theorem catk_same {w0 w : World} {B g m c k : Nat} (h : CAtK w0 B g m c k w) : CAtK w0 B g m c (k + 1) w := ⟨h.1.mono (by rw [Nat.mul_add]; omega), h.2⟩
theorem catk_alloc {w0 w : World} {B g m c k : Nat} (h : CAtK w0 B g m c k w) (o : Obj) : CAtK w0 B g m c (k + 1) (w.alloc o) := ⟨(h.1.alloc o).mono (by rw [Nat.mul_add]; omega), h.2⟩
theorem catk_drawn {w0 w w' : World} {B g m c k m' : Nat} (h : CAtK w0 B g m c k w) (hd : Drawn w w' B g m') (hm : m' ≤ m + c * (k + 1)) : CAtK w0 B g m c (k + 1) w' := ⟨(h.1.trans hd).mono hm, h.2⟩
theorem catk_lt {w0 w : World} {B g m c k : Nat} (h : CAtK w0 B g m c k w) : g < w.heap.size := h.1.1.lt
end Go.Proofs.YtbhnjnoblkfckaaGreatDoor

-- from XRsI3
/- Walks: answers, by the program: their age, whether they are fresh, whether they may be kept. -/
namespace Go.Proofs.YtbhnjnoblkfckaaGreatDoor
open Go.RowKit

theorem age_yes {a n : Int} (h : timesB a n = true) : ageN a n = n - a := by
  unfold timesB at h
  rw [decide_eq_true_eq] at h
  unfold ageN; rw [if_pos h]
theorem age_no {a n : Int} (h : timesB a n = false) : ageN a n = 0 := by
  unfold timesB at h
  rw [decide_eq_false_iff_not] at h
  unfold ageN; rw [if_neg h]
theorem times_iff {a n : Int} : timesB a n = true ↔ 0 ≤ a ∧ a ≤ n ∧ n ≤ 999999 := by unfold timesB; rw [decide_eq_true_eq]

set_option maxRecDepth 100000 in
set_option maxHeartbeats 1600000 in
theorem impl_keep (r : Rp) (x : Int) (w : World) (ht : r.tag.size ≤ maxLen) (hb : r.body.size ≤ maxLen) (hcls : Cls w) :
    Calls Tryz.prog 76 #[rspV r, .int .i64 x] w fun e w' => e = .returned (.bool (keepB r x)) ∧ Below w.heap.size w w' := by
  have hR := fun W (h : Cls W) => impl_rspok r W ht hb h
  obtain ⟨c, m, hd, t, k, b⟩ := r
  have hS := fun W => status_of c W
  have hU := fun W => use_of c W
  have hI := fun W => impl_codin x k W
  have hdef : keepB ⟨c, m, hd, t, k, b⟩ x = (rspB ⟨c, m, hd, t, k, b⟩ && (((useN c == 1) && (decide (0 < m) && !hd)) && inB x k)) := by
    unfold keepB
    have e : (useN c == 1) = decide (c = 200 ∨ c = 404) := by
      unfold useN
      by_cases h : c = 200 ∨ c = 404
      · rw [if_pos h, decide_eq_true h]; rfl
      · rw [if_neg h, decide_eq_false h]
        split <;> rfl
    rw [e]
    dsimp only
    simp only [Bool.and_assoc]
  rw [hdef]
  unfold rspV at hR ⊢
  dsimp only at hR ⊢
  generalize rspB ⟨c, m, hd, t, k, b⟩ = B0 at *
  generalize inB x k = B2 at *
  generalize useN c = U at *
  generalize stV c = S at *
  clear hdef ht hb
  obtain ⟨wA, hwA⟩ : ∃ wA, wA = w.alloc (.cells #[.int .i64 c, .int .i64 m, .bool hd, .string t, .int .i64 k, .string b] 46) := ⟨_, rfl⟩
  have hsA : wA.heap.size = w.heap.size + 1 := by rw [hwA]; simp
  have hbA : Below w.heap.size w wA := by rw [hwA]; exact (Below.refl _ _).alloc (Nat.le_refl _) _
  have hH : wA.heap[w.heap.size]? = some (.cells #[.int .i64 c, .int .i64 m, .bool hd, .string t, .int .i64 k, .string b] 46 (0, 0)) := by rw [hwA]; exact heap_alloc_new w _
  have HX : Hid (∀ W, Below wA.heap.size wA W → Cls W ∧ Below w.heap.size w W ∧ W.heap[w.heap.size]? = some (.cells #[.int .i64 c, .int .i64 m, .bool hd, .string t, .int .i64 k, .string b] 46 (0, 0))) := Lib.hid fun W hW => by
    have hb' := hbA.trans (hW.mono (by omega))
    exact ⟨hcls.below hb' (Nat.le_refl _), hb', (hW.block _ (by omega)).trans hH⟩
  have HW := Lib.hid hwA
  have hb0 : Below wA.heap.size wA wA := Below.refl _ _
  obtain ⟨q0, q1, q2, q3, q4, q5⟩ := six_facts hH
  rw [hwA] at q0 q1 q2 q3 q4 q5
  have HR := Lib.hid hR; have HS := Lib.hid hS; have HU := Lib.hid hU; have HI := Lib.hid hI
  clear hR hS hU hI hwA hbA hcls hH
  generalize hE : (U == 1) = E at *
  cases E
  · rw [show (B0 && ((false && (decide (0 < m) && !hd)) && B2)) = (B0 && false) from rfl]
    go_enter Tryz.func76, Tryz.ntmps76
    go_wp2_with fail
    refine (HS.out _).mono ?_
    rintro e w1 ⟨rfl, rfl⟩
    go_wp2_with fail
    refine (HU.out _).mono ?_
    rintro e w1 ⟨rfl, rfl⟩
    go_wp2_with fail
    rw [← HW.out]
    refine (HR.out _ (HX.out _ hb0).1).mono ?_
    rintro e w2 ⟨rfl, hb2⟩
    clear q0 q1 q2 q3 q4 q5
    obtain ⟨q0, q1, q2, q3, q4, q5⟩ := six_facts (HX.out _ hb2).2.2
    have HB := Lib.hid (HX.out _ hb2).2.1
    clear hb0 hb2
    cases B0
    · go_wp2
      go_ret
      exact ⟨rfl, HB.out⟩
    · go_wp2
      go_ret
      exact ⟨rfl, HB.out⟩
  · by_cases hm : 0 < m
    · rw [decide_eq_true hm]
      cases hd
      · rw [show (B0 && ((true && (true && !false)) && B2)) = (B0 && B2) from rfl]
        go_enter Tryz.func76, Tryz.ntmps76
        go_wp2_with fail
        refine (HS.out _).mono ?_
        rintro e w1 ⟨rfl, rfl⟩
        go_wp2_with fail
        refine (HU.out _).mono ?_
        rintro e w1 ⟨rfl, rfl⟩
        go_wp2_with fail
        rw [← HW.out]
        refine (HR.out _ (HX.out _ hb0).1).mono ?_
        rintro e w2 ⟨rfl, hb2⟩
        clear q0 q1 q2 q3 q4 q5
        obtain ⟨q0, q1, q2, q3, q4, q5⟩ := six_facts (HX.out _ hb2).2.2
        have HB := Lib.hid (HX.out _ hb2).2.1
        clear hb0 hb2
        cases B0
        · go_wp2
          go_ret
          exact ⟨rfl, HB.out⟩
        · go_wp2_with fail
          refine (HI.out _).mono ?_
          rintro e w3 ⟨rfl, rfl⟩
          go_wp2
          go_ret
          exact ⟨rfl, HB.out⟩
      · rw [show (B0 && ((true && (true && !true)) && B2)) = (B0 && false) from rfl]
        go_enter Tryz.func76, Tryz.ntmps76
        go_wp2_with fail
        refine (HS.out _).mono ?_
        rintro e w1 ⟨rfl, rfl⟩
        go_wp2_with fail
        refine (HU.out _).mono ?_
        rintro e w1 ⟨rfl, rfl⟩
        go_wp2_with fail
        rw [← HW.out]
        refine (HR.out _ (HX.out _ hb0).1).mono ?_
        rintro e w2 ⟨rfl, hb2⟩
        clear q0 q1 q2 q3 q4 q5
        obtain ⟨q0, q1, q2, q3, q4, q5⟩ := six_facts (HX.out _ hb2).2.2
        have HB := Lib.hid (HX.out _ hb2).2.1
        clear hb0 hb2
        cases B0
        · go_wp2
          go_ret
          exact ⟨rfl, HB.out⟩
        · go_wp2
          go_ret
          exact ⟨rfl, HB.out⟩
    · rw [decide_eq_false hm, show (B0 && ((true && (false && !hd)) && B2)) = (B0 && false) from rfl]
      go_enter Tryz.func76, Tryz.ntmps76
      go_wp2_with fail
      refine (HS.out _).mono ?_
      rintro e w1 ⟨rfl, rfl⟩
      go_wp2_with fail
      refine (HU.out _).mono ?_
      rintro e w1 ⟨rfl, rfl⟩
      go_wp2_with fail
      rw [← HW.out]
      refine (HR.out _ (HX.out _ hb0).1).mono ?_
      rintro e w2 ⟨rfl, hb2⟩
      clear q0 q1 q2 q3 q4 q5
      obtain ⟨q0, q1, q2, q3, q4, q5⟩ := six_facts (HX.out _ hb2).2.2
      have HB := Lib.hid (HX.out _ hb2).2.1
      clear hb0 hb2
      cases B0
      · go_wp2
        go_ret
        exact ⟨rfl, HB.out⟩
      · go_wp2
        go_ret
        exact ⟨rfl, HB.out⟩

end Go.Proofs.YtbhnjnoblkfckaaGreatDoor

-- from XRsS
/- Walks: which answers are valid, by the specification. -/
namespace Go.Proofs.YtbhnjnoblkfckaaGreatDoor
open Go.RowKit

set_option maxRecDepth 100000 in
set_option maxHeartbeats 3200000 in
theorem spec_rspok (r : Rp) (w : World) (ht : r.tag.size ≤ maxLen) (hb : r.body.size ≤ maxLen) :
    Calls Tryz.prog 63 #[rspV r] w fun e w' => e = .returned (.bool (rspB r)) ∧ Below w.heap.size w w' := by
  obtain ⟨c, m, hd, t, k, b⟩ := r
  dsimp only at ht hb
  have hC := fun W => cod_in1 c 100 599 W
  have hL := fun W => cod_in1 m (-1) 999999 W
  have hT := fun W => spec_tok t W ht
  have hK := fun W => cod_in1 k 0 2 W
  have hB := fun W => l4_body b W hb
  have hdef : rspB ⟨c, m, hd, t, k, b⟩ = (decide (100 ≤ c ∧ c ≤ 599) && (decide (-1 ≤ m ∧ m ≤ 999999) && (tagB t.data.toList && (decide (0 ≤ k ∧ k ≤ 2) && bodyB b.data.toList)))) := rfl
  rw [hdef]
  unfold rspV
  dsimp only
  generalize decide (100 ≤ c ∧ c ≤ 599) = B0 at *
  generalize decide (-1 ≤ m ∧ m ≤ 999999) = B1 at *
  generalize decide (0 ≤ k ∧ k ≤ 2) = B3 at *
  generalize bodyB b.data.toList = B4 at *
  clear hdef ht hb
  obtain ⟨wA, hwA⟩ : ∃ wA, wA = w.alloc (.cells #[.int .i64 c, .int .i64 m, .bool hd, .string t, .int .i64 k, .string b] 46) := ⟨_, rfl⟩
  have hbA : Below w.heap.size w wA := by rw [hwA]; exact (Below.refl _ _).alloc (Nat.le_refl _) _
  have hH : wA.heap[w.heap.size]? = some (.cells #[.int .i64 c, .int .i64 m, .bool hd, .string t, .int .i64 k, .string b] 46 (0, 0)) := by rw [hwA]; exact heap_alloc_new w _
  have HW := Lib.hid hwA
  have HB := Lib.hid hbA
  have HL := Lib.hid hL; have HT := Lib.hid hT; have HK := Lib.hid hK; have HBo := Lib.hid hB; have HC := Lib.hid hC
  obtain ⟨q0, q1, _, q3, q4, q5⟩ := six_facts hH
  rw [hwA] at q0 q1 q3 q4 q5
  clear hL hT hK hB hC hwA hbA hH
  by_cases ce : t.data.toList = []
  · have hd2 : tagB t.data.toList = true := by unfold tagB; rw [ce]; rfl
    rw [hd2]
    obtain rfl := str_nil ce
    clear hd2 ce HT
    go_enter Tryz.func63, Tryz.ntmps63
    go_wp2_with fail
    refine (HC.out _).mono ?_
    rintro e w1 ⟨rfl, rfl⟩
    rw [← HW.out] at *
    cases B0
    · go_wp2
      go_ret
      exact ⟨rfl, HB.out⟩
    go_wp2_with fail
    refine (HL.out _).mono ?_
    rintro e w1 ⟨rfl, rfl⟩
    cases B1
    · go_wp2
      go_ret
      exact ⟨rfl, HB.out⟩
    go_wp2_with fail
    refine (HK.out _).mono ?_
    rintro e w1 ⟨rfl, rfl⟩
    cases B3
    · go_wp2
      go_ret
      exact ⟨rfl, HB.out⟩
    go_wp2_with fail
    refine (HBo.out _).mono ?_
    rintro e w1 ⟨rfl, rfl⟩
    go_wp2
    go_ret
    exact ⟨rfl, HB.out⟩
  · have hd2 : tagB t.data.toList = tokB t.data.toList := by unfold tagB; rw [decide_eq_false ce]; rfl
    rw [hd2]
    have b0 : (t.toList == ([] : List UInt8)) = false := by rw [Lib.toList_data]; exact beq_eq_false_iff_ne.2 ce
    have b1 : t.toList.isEmpty = false := by rw [Lib.toList_data]; cases hh : t.data.toList with
      | nil => exact absurd hh ce
      | cons _ _ => rfl
    generalize tokB t.data.toList = B2 at *
    clear hd2 ce
    go_enter Tryz.func63, Tryz.ntmps63
    go_wp2_with fail
    refine (HC.out _).mono ?_
    rintro e w1 ⟨rfl, rfl⟩
    rw [← HW.out] at *
    cases B0
    · go_wp2
      go_ret
      exact ⟨rfl, HB.out⟩
    go_wp2_with fail
    refine (HL.out _).mono ?_
    rintro e w1 ⟨rfl, rfl⟩
    cases B1
    · go_wp2
      go_ret
      exact ⟨rfl, HB.out⟩
    go_wp2_with fail
    refine (HT.out _).mono ?_
    rintro e w1 ⟨rfl, rfl⟩
    cases B2
    · go_wp2
      go_ret
      exact ⟨rfl, HB.out⟩
    go_wp2_with fail
    refine (HK.out _).mono ?_
    rintro e w1 ⟨rfl, rfl⟩
    cases B3
    · go_wp2
      go_ret
      exact ⟨rfl, HB.out⟩
    go_wp2_with fail
    refine (HBo.out _).mono ?_
    rintro e w1 ⟨rfl, rfl⟩
    go_wp2
    go_ret
    exact ⟨rfl, HB.out⟩
end Go.Proofs.YtbhnjnoblkfckaaGreatDoor

-- from XRsS2
/- Walks: answers, by the specification: their age, whether they are fresh, whether they may be kept. -/
namespace Go.Proofs.YtbhnjnoblkfckaaGreatDoor
open Go.RowKit

set_option maxRecDepth 100000 in
set_option maxHeartbeats 3200000 in
theorem spec_keep (r : Rp) (x : Int) (w : World) (ht : r.tag.size ≤ maxLen) (hb : r.body.size ≤ maxLen) :
    Calls Tryz.prog 27 #[rspV r, .int .i64 x] w fun e w' => e = .returned (.bool (keepB r x)) ∧ Below w.heap.size w w' := by
  have hR := fun W => spec_rspok r W ht hb
  obtain ⟨c, m, hd, t, k, b⟩ := r
  have hI := fun W => spec_codin x k W
  have hdef : keepB ⟨c, m, hd, t, k, b⟩ x = (rspB ⟨c, m, hd, t, k, b⟩ && (decide (c = 200 ∨ c = 404) && (decide (0 < m) && ((!hd) && inB x k)))) := rfl
  rw [hdef]
  unfold rspV at hR ⊢
  dsimp only at hR ⊢
  generalize rspB ⟨c, m, hd, t, k, b⟩ = B0 at *
  generalize inB x k = B2 at *
  clear hdef ht hb
  obtain ⟨wA, hwA⟩ : ∃ wA, wA = w.alloc (.cells #[.int .i64 c, .int .i64 m, .bool hd, .string t, .int .i64 k, .string b] 46) := ⟨_, rfl⟩
  have hsA : wA.heap.size = w.heap.size + 1 := by rw [hwA]; simp
  have hbA : Below w.heap.size w wA := by rw [hwA]; exact (Below.refl _ _).alloc (Nat.le_refl _) _
  have hH : wA.heap[w.heap.size]? = some (.cells #[.int .i64 c, .int .i64 m, .bool hd, .string t, .int .i64 k, .string b] 46 (0, 0)) := by rw [hwA]; exact heap_alloc_new w _
  have HX : Hid (∀ W, Below wA.heap.size wA W → Below w.heap.size w W ∧ W.heap[w.heap.size]? = some (.cells #[.int .i64 c, .int .i64 m, .bool hd, .string t, .int .i64 k, .string b] 46 (0, 0))) := Lib.hid fun W hW =>
    ⟨hbA.trans (hW.mono (by omega)), (hW.block _ (by omega)).trans hH⟩
  have HW := Lib.hid hwA
  obtain ⟨q0, q1, q2, q3, q4, q5⟩ := six_facts hH
  rw [hwA] at q0 q1 q2 q3 q4 q5
  have HR := Lib.hid hR; have HI := Lib.hid hI
  have hRA := hR wA
  rw [hwA] at hRA
  have hb0 : True := trivial
  clear hR hI hwA hbA hH
  cases B0
  · go_enter Tryz.func27, Tryz.ntmps27
    go_wp2_with fail
    refine hRA.mono ?_
    rintro e w1 ⟨rfl, hb1⟩
    rw [← HW.out] at hb1
    clear q0 q1 q2 q3 q4 q5
    obtain ⟨HB, hq⟩ := HX.out _ hb1
    have HB := Lib.hid HB
    obtain ⟨q0, q1, q2, q3, q4, q5⟩ := six_facts hq
    clear hb0 hb1 hq hRA
    go_wp2
    go_ret
    exact ⟨rfl, HB.out⟩
  have h3 : c = 200 ∨ c = 404 ∨ (¬ c = 200 ∧ ¬ c = 404) := by omega
  rcases h3 with rfl | rfl | ⟨n0, n1⟩
  · rw [show decide ((200 : Int) = 200 ∨ (200 : Int) = 404) = true from rfl]
    by_cases hm : 0 < m
    · rw [decide_eq_true hm]
      have i1 : 1 ≤ m := by omega
      clear hm
      cases hd
      · go_enter Tryz.func27, Tryz.ntmps27
        go_wp2_with fail
        refine hRA.mono ?_
        rintro e w1 ⟨rfl, hb1⟩
        rw [← HW.out] at hb1
        clear q0 q1 q2 q3 q4 q5
        obtain ⟨HB, hq⟩ := HX.out _ hb1
        have HB := Lib.hid HB
        obtain ⟨q0, q1, q2, q3, q4, q5⟩ := six_facts hq
        clear hb0 hb1 hq hRA
        go_wp2_with fail
        refine (HI.out _).mono ?_
        rintro e w2 ⟨rfl, hb2⟩
        have HB2 := Lib.hid (HB.out.trans (hb2.mono HB.out.size))
        clear hb2
        go_wp2
        go_ret
        exact ⟨rfl, HB2.out⟩
      · go_enter Tryz.func27, Tryz.ntmps27
        go_wp2_with fail
        refine hRA.mono ?_
        rintro e w1 ⟨rfl, hb1⟩
        rw [← HW.out] at hb1
        clear q0 q1 q2 q3 q4 q5
        obtain ⟨HB, hq⟩ := HX.out _ hb1
        have HB := Lib.hid HB
        obtain ⟨q0, q1, q2, q3, q4, q5⟩ := six_facts hq
        clear hb0 hb1 hq hRA
        go_wp2
        go_ret
        exact ⟨rfl, HB.out⟩
    · rw [decide_eq_false hm]
      have i1 : ¬ 1 ≤ m := by omega
      clear hm
      go_enter Tryz.func27, Tryz.ntmps27
      go_wp2_with fail
      refine hRA.mono ?_
      rintro e w1 ⟨rfl, hb1⟩
      rw [← HW.out] at hb1
      clear q0 q1 q2 q3 q4 q5
      obtain ⟨HB, hq⟩ := HX.out _ hb1
      have HB := Lib.hid HB
      obtain ⟨q0, q1, q2, q3, q4, q5⟩ := six_facts hq
      clear hb0 hb1 hq hRA
      go_wp2
      go_ret
      exact ⟨rfl, HB.out⟩
  · rw [show decide ((404 : Int) = 200 ∨ (404 : Int) = 404) = true from rfl]
    by_cases hm : 0 < m
    · rw [decide_eq_true hm]
      have i1 : 1 ≤ m := by omega
      clear hm
      cases hd
      · go_enter Tryz.func27, Tryz.ntmps27
        go_wp2_with fail
        refine hRA.mono ?_
        rintro e w1 ⟨rfl, hb1⟩
        rw [← HW.out] at hb1
        clear q0 q1 q2 q3 q4 q5
        obtain ⟨HB, hq⟩ := HX.out _ hb1
        have HB := Lib.hid HB
        obtain ⟨q0, q1, q2, q3, q4, q5⟩ := six_facts hq
        clear hb0 hb1 hq hRA
        go_wp2_with fail
        refine (HI.out _).mono ?_
        rintro e w2 ⟨rfl, hb2⟩
        have HB2 := Lib.hid (HB.out.trans (hb2.mono HB.out.size))
        clear hb2
        go_wp2
        go_ret
        exact ⟨rfl, HB2.out⟩
      · go_enter Tryz.func27, Tryz.ntmps27
        go_wp2_with fail
        refine hRA.mono ?_
        rintro e w1 ⟨rfl, hb1⟩
        rw [← HW.out] at hb1
        clear q0 q1 q2 q3 q4 q5
        obtain ⟨HB, hq⟩ := HX.out _ hb1
        have HB := Lib.hid HB
        obtain ⟨q0, q1, q2, q3, q4, q5⟩ := six_facts hq
        clear hb0 hb1 hq hRA
        go_wp2
        go_ret
        exact ⟨rfl, HB.out⟩
    · rw [decide_eq_false hm]
      have i1 : ¬ 1 ≤ m := by omega
      clear hm
      go_enter Tryz.func27, Tryz.ntmps27
      go_wp2_with fail
      refine hRA.mono ?_
      rintro e w1 ⟨rfl, hb1⟩
      rw [← HW.out] at hb1
      clear q0 q1 q2 q3 q4 q5
      obtain ⟨HB, hq⟩ := HX.out _ hb1
      have HB := Lib.hid HB
      obtain ⟨q0, q1, q2, q3, q4, q5⟩ := six_facts hq
      clear hb0 hb1 hq hRA
      go_wp2
      go_ret
      exact ⟨rfl, HB.out⟩
  · rw [decide_eq_false (fun h => h.elim n0 n1)]
    have b0 : (c == 200) = false := beq_eq_false_iff_ne.2 n0
    have b1 : (c == 404) = false := beq_eq_false_iff_ne.2 n1
    clear n0 n1
    go_enter Tryz.func27, Tryz.ntmps27
    go_wp2_with fail
    refine hRA.mono ?_
    rintro e w1 ⟨rfl, hb1⟩
    rw [← HW.out] at hb1
    clear q0 q1 q2 q3 q4 q5
    obtain ⟨HB, hq⟩ := HX.out _ hb1
    have HB := Lib.hid HB
    obtain ⟨q0, q1, q2, q3, q4, q5⟩ := six_facts hq
    clear hb0 hb1 hq hRA
    go_wp2
    go_ret
    exact ⟨rfl, HB.out⟩
end Go.Proofs.YtbhnjnoblkfckaaGreatDoor


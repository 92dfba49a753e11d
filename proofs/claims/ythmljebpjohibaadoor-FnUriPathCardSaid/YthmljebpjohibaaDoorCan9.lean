/- Places: their plainest form as the program writes it; the exact law. -/
import Derived.Test.YthmljebpjohibaaDoorCan8
import Derived.Test.YthmljebpjohibaaDoorSSteps
import Derived.Test.YthmljebpjohibaaDoorLaid
namespace Go.Proofs.YthmljebpjohibaaDoor
open Go.RowKit

theorem resP_bad0 {ys : List UInt8} {seg : Nat} {l : List UInt8} (h : codeL (37 :: l) = none) (h2 : 63 ∉ l) : resP ys seg (37 :: l) = none := by
  unfold resP
  rw [cutL_cons (by decide), cutL_no _ _ h2, plainL_bad h]
theorem resQ_bad0 {ys : List UInt8} {seg : Nat} {l : List UInt8} (h : codeL (37 :: l) = none) : resQ ys seg (37 :: l) = none := by
  unfold resQ
  rw [plainL_bad h]; simp
theorem res_func (b : Nat) (q : Bool) : ∃ N, bkV b q = .func (.func N) #[.pointer (some ⟨b, 0, none⟩)] #[] := by
  cases q <;> exact ⟨_, rfl⟩
theorem cend {b : Nat} {R : Option (List UInt8)} {st : CS} {ys : List UInt8} {seg high : Nat} (h : CInv R st ys seg high []) (h0 : st ≠ .root) :
    (resOf b st = .nilFunc ∧ 0 < ys.length ∧ seg ≤ ys.length ∧ R = if dotL (ys.drop seg) = true then none else some ys) ∨ ((∃ N, resOf b st = .func (.func N) #[.pointer (some ⟨b, 0, none⟩)] #[]) ∧ R = none) := by
  cases st with
  | root => exact absurd rfl h0
  | path => obtain ⟨h1, h2⟩ := h; exact .inl ⟨rfl, h1.ne, h1.le, by rw [h2, resP_end h1]⟩
  | query => obtain ⟨h1, h2⟩ := h; exact .inl ⟨rfl, h1.ne, h1.le, by rw [h2, resQ_end]⟩
  | d1 q =>
    refine .inr ⟨res_func b q, ?_⟩
    cases q with
    | true => obtain ⟨h1, h2⟩ := h; rw [h2, resQ_bad0 rfl]
    | false => obtain ⟨h1, h2⟩ := h; rw [h2, resP_bad0 rfl (by simp)]
  | d2 q =>
    obtain ⟨a, ha, h⟩ := h
    refine .inr ⟨res_func b q, ?_⟩
    cases q with
    | true => obtain ⟨h1, h2⟩ := h; rw [h2, resQ_bad0 rfl]
    | false => obtain ⟨h1, h2⟩ := h; rw [h2, resP_bad0 rfl (by simpa using (hex_ne ha (by decide : hexV 63 = none)).symm)]

set_option maxHeartbeats 1600000 in
theorem c_whole_nil (b : Nat) (ys : List UInt8) (seg high : Nat) (w : World) (h : CAt w b ys seg .nilFunc high) (hn : ys.length ≤ 1000) (h0 : 0 < ys.length) (hs : seg ≤ ys.length) :
    Calls Tryd.prog 35 #[.pointer (some ⟨b, 0, none⟩)] w fun e w' => e = .returned (.bool (!dotL (ys.drop seg))) ∧ ∃ n, w' = w.drewN n := by
  have c1 := c_dotted b ys seg high .nilFunc w h hn h0 hs
  have hq1 := step_nil
  obtain ⟨v, hh, ho⟩ := h
  have k2 : w.cell? ⟨b, 2, none⟩ = some .nilFunc := by simp [World.cell?, hh]
  clear hh ho
  generalize dotL (ys.drop seg) = d at *
  cases d
  all_goals go_enter Tryd.func35, Tryd.ntmps35
  all_goals go_wp2_with fail
  all_goals refine c1.mono ?_
  all_goals rintro e w1 ⟨rfl, n, rfl⟩
  all_goals go_wp2
  all_goals go_ret
  all_goals exact ⟨rfl, n, rfl⟩

set_option maxHeartbeats 1600000 in
theorem c_whole_open (b : Nat) (ys : List UInt8) (seg high N : Nat) (w : World) (h : CAt w b ys seg (.func (.func N) #[.pointer (some ⟨b, 0, none⟩)] #[]) high) :
    Calls Tryd.prog 35 #[.pointer (some ⟨b, 0, none⟩)] w fun e w' => e = .returned (.bool false) ∧ w = w' := by
  have hq2 := step_not_nil
  obtain ⟨v, hh, ho⟩ := h
  have k2 : w.cell? ⟨b, 2, none⟩ = some (.func (.func N) #[.pointer (some ⟨b, 0, none⟩)] #[]) := by simp [World.cell?, hh]
  clear hh ho
  go_enter Tryd.func35, Tryd.ntmps35
  go_wp2
  go_ret
  exact ⟨rfl, rfl⟩

theorem made_c (w : World) : CAt (w.alloc (.cells #[.slice none 0 0, .int .i64 0, .nilFunc, .int .u8 0] 47)) w.heap.size [] 0 .nilFunc 0 :=
  ⟨.slice none 0 0, heap_alloc_new w _, World.ownsRow_nil _ _ _ _⟩

set_option maxRecDepth 100000 in
set_option maxHeartbeats 3200000 in
theorem impl_canon (s : ByteArray) (w : World) (hs : s.size ≤ 281474976710656) (hcls : Cls w) :
    Calls Tryd.prog 15 #[.string s] w fun e w' => e = .returned (canV (canonL s.data.toList)) ∧ Below w.heap.size w w' := by
  obtain ⟨R, hR⟩ : ∃ R, R = canonL s.data.toList := ⟨_, rfl⟩
  rw [← hR]
  have hbad : R = none → canV R = .tuple #[.string ⟨#[]⟩, .bool false] := fun h => by rw [h]; rfl
  have hgood : ∀ ys, R = some ys → canV R = .tuple #[.string ⟨ys.toArray⟩, .bool true] := fun ys h => by rw [h]; rfl
  unfold canonL at hR
  rw [← size_len] at hR
  have hemp : (s.toList == ([] : List UInt8)) = decide (s.size = 0) := by
    rw [Lib.toList_data, size_len, Bool.eq_iff_iff, beq_iff_eq, decide_eq_true_iff, ← List.length_eq_zero_iff]
  by_cases h0 : s.size = 0
  · rw [if_pos (.inl h0)] at hR
    rw [hbad hR]
    rw [show decide (s.size = 0) = true from by simpa using h0] at hemp
    clear hbad hgood hR hcls h0
    go_enter Tryd.func15, Tryd.ntmps15
    go_wp2
    go_ret2
    exact ⟨rfl, Below.refl _ _⟩
  · rw [show decide (s.size = 0) = false from by simpa using h0] at hemp
    by_cases h40 : 40 < s.size
    · rw [if_pos (.inr h40)] at hR
      rw [hbad hR]
      clear hbad hgood hR hcls h0
      go_enter Tryd.func15, Tryd.ntmps15
      go_wp2
      go_ret2
      exact ⟨rfl, Below.refl _ _⟩
    · rw [if_neg (by omega)] at hR
      have hbel := (Below.refl w.heap.size w).alloc (Nat.le_refl _) (.cells #[.slice none 0 0, .int .i64 0, .nilFunc, .int .u8 0] 47)
      have hcls2 := hcls.below hbel (Nat.le_refl _)
      have c1 := takes_c w.heap.size s R hR _ (made_c w) hcls2 hcls.1 (by omega) (by omega)
      have hmf : ∀ (fn : Fn) (first cap : Array Value) (w : World), (Instr.makeFunc fn first cap).run Tryd.prog w = .ok (.func fn first cap) w := fun _ _ _ _ => rfl
      have HB := Lib.hid hbad
      have HG := Lib.hid hgood
      unfold cV at c1
      clear hR hcls hcls2 hbad hgood h0
      go_enter Tryd.func15, Tryd.ntmps15
      go_wp2_with fail
      refine c1.mono ?_
      rintro e w1 ⟨hb1, ⟨rfl, hn⟩ | ⟨rfl, st, ys, seg, high, hne, hat, hin, hlen⟩⟩
      · have hb2 := hbel.trans hb1
        have HN := Lib.hid (HB.out hn)
        clear c1 hn
        go_wp2
        go_ret2
        exact ⟨congrArg Ending.returned HN.out.symm, hb2⟩
      · have hb2 := hbel.trans hb1
        clear c1
        rcases cend (b := w.heap.size) hin hne with ⟨hr, h1, h2, h3⟩ | ⟨⟨N, hr⟩, h3⟩
        · rw [hr] at hat
          have c2 := c_whole_nil w.heap.size ys seg high w1 hat (by omega) h1 h2
          obtain ⟨v, hh, hown⟩ := hat
          obtain ⟨g, cap, rfl⟩ := own_form hown h1
          have hcv : ∀ n, (convert 22 9 (.slice (some ⟨g, 0, none⟩) ys.length cap)).run Tryd.prog (w1.drewN n) = .ok (.string ⟨ys.toArray⟩) (w1.drewN n) := fun n =>
            run_convert_bytes_back (P := Tryd.prog) (w1.drewN n) 22 9 5 ⟨g, 0, none⟩ cap ys Tryd.underlying22 Tryd.underlying5 Tryd.underlying9 (fun j hj => hown.cells (g := g) rfl j _ (u8s_at hj))
          have k0 : ∀ n, (w1.drewN n).cell? ⟨w.heap.size, 0, none⟩ = some (.slice (some ⟨g, 0, none⟩) ys.length cap) := fun n => (show w1.cell? _ = _ by simp [World.cell?, hh])
          clear hin hh hown hr
          cases hd : dotL (ys.drop seg) with
          | true =>
            rw [hd] at c2 h3
            have HN := Lib.hid (HB.out (by simpa using h3))
            clear h3 hd
            go_wp2_with fail
            refine c2.mono ?_
            rintro e w2 ⟨rfl, n, rfl⟩
            go_wp2
            go_ret2
            exact ⟨congrArg Ending.returned HN.out.symm, below_drewN hb2⟩
          | false =>
            rw [hd] at c2 h3
            have HN := Lib.hid (HG.out ys (by simpa using h3))
            clear h3 hd
            go_wp2_with fail
            refine c2.mono ?_
            rintro e w2 ⟨rfl, n, rfl⟩
            have k0' := k0 n
            have hcv' := hcv n
            clear k0 hcv c2
            go_wp2
            go_ret2
            exact ⟨congrArg Ending.returned HN.out.symm, below_drewN hb2⟩
        · rw [hr] at hat
          have c2 := c_whole_open w.heap.size ys seg high N w1 hat
          have HN := Lib.hid (HB.out h3)
          clear h3 hin hat hr
          go_wp2_with fail
          refine c2.mono ?_
          rintro e w2 ⟨rfl, rfl⟩
          go_wp2
          go_ret2
          exact ⟨congrArg Ending.returned HN.out.symm, hb2⟩

set_option maxHeartbeats 400000 in
theorem law_canon (s : ByteArray) (w : World) (hs : s.size ≤ maxLen) (hcls : Cls w) :
    Calls Tryd.prog 9 #[.string s] w fun e w' => e = .returned (.bool true) ∧ Below w.heap.size w w' := by
  unfold maxLen at hs
  by_cases hbig : 1048576 < s.size
  · clear hcls
    go_enter Tryd.func9, Tryd.ntmps9
    go_wp2_with fail
    go_ret
    exact ⟨rfl, Below.refl _ _⟩
  · have c1 := spec_canon s w (by omega)
    have c2 := fun w1 (hb : Below w.heap.size w w1) => impl_canon s w1 (by omega) (hcls.below hb (Nat.le_refl _))
    clear hcls
    generalize canonL s.data.toList = R at *
    cases R
    all_goals unfold canV at c1 c2
    all_goals simp only [Option.getD_none, Option.getD_some, Option.isSome_none, Option.isSome_some] at c1 c2
    all_goals go_enter Tryd.func9, Tryd.ntmps9
    all_goals go_wp2_with fail
    all_goals refine c1.mono ?_
    all_goals rintro e w1 ⟨rfl, hb1⟩
    all_goals have c3 := c2 w1 hb1
    all_goals clear c1 c2
    all_goals go_wp2_with fail
    all_goals refine c3.mono ?_
    all_goals rintro e w2 ⟨rfl, hb2⟩
    all_goals go_wp2
    all_goals go_ret
    all_goals exact ⟨rfl, hb1.trans (hb2.mono hb1.size)⟩
namespace Lw
theorem fnExactUriCanon (w : World) (hL : laidMetH Tryd.prog Rows.fnExactUriCanonRow.laid w) (s : ByteArray) (hs : s.size ≤ maxLen) :
    Calls Tryd.prog 9 #[.string s] w fun e w' => e = .returned (.bool true) ∧ Below w.heap.size w w' :=
  law_canon s w hs (cls_of_head hL)
end Lw
end Go.Proofs.YthmljebpjohibaaDoor

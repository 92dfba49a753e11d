/- Places: the machine that writes a place in its plainest form, over a whole text. -/
import Derived.Test.YthmljebpjohibaaDoorCan4
import Derived.Test.YthmljebpjohibaaDoorCan4b
import Derived.Test.YthmljebpjohibaaDoorCan7
import Derived.Test.YthmljebpjohibaaDoorTakes
namespace Go.Proofs.YthmljebpjohibaaDoor
open Go.RowKit

theorem s_path (b : Nat) (R : Option (List UInt8)) (ys l : List UInt8) (c : UInt8) (seg high : Nat) (w : World) (h : CAt w b ys seg .nilFunc high) (hcls : Cls w) (hg : 0 < b) (hn : ys.length ≤ 900) (hR : CBase false R ys seg (c :: l)) :
    Calls Tryd.prog 69 #[.pointer (some ⟨b, 0, none⟩), .int .u8 c.toNat] w (CNext b R ys.length l w) := by
  by_cases h47 : c = 47
  · subst h47; exact s_path47 b R ys l seg high w h hcls hg hn hR
  · by_cases h63 : c = 63
    · subst h63; exact s_path63 b R ys l seg high w h hn hR
    · by_cases h37 : c = 37
      · subst h37; exact s_path37 b R ys l seg high w h hn hR
      · exact s_pathlit b R ys l c seg high w h hcls hn h37 h63 h47 hR

theorem s_d2 (b : Nat) (q : Bool) (R : Option (List UInt8)) (ys l : List UInt8) (c : UInt8) (seg high : Nat) (w : World) (h : CAt w b ys seg (bkV b q) high) (hcls : Cls w) (hg : 0 < b) (hn : ys.length ≤ 900) (hR : CInv R (.d2 q) ys seg high (c :: l)) :
    Calls Tryd.prog 92 #[.pointer (some ⟨b, 0, none⟩), .int .u8 c.toNat] w (CNext b R ys.length l w) := by
  obtain ⟨a, ha, hR⟩ := hR
  cases hc : hexV c with
  | none => exact s_d2_bad b q R ys l a c seg high w h ha hR hc
  | some y =>
    cases hd : doubtB (high * 16 + y) with
    | true => exact s_d2_doubt b q R ys l a c seg high y w h ha hR hc hd
    | false =>
      cases hf : freeB (UInt8.ofNat (high * 16 + y)) with
      | true => exact s_d2_free b q R ys l a c seg high y w h hcls hg hn ha hR hc hd hf
      | false => exact s_d2_code b q R ys l a c seg high y w h hcls hg hn ha hR hc hd hf

theorem c_form (b : Nat) (st : CS) : ∃ N, cV b st = .func (.func N) #[.pointer (some ⟨b, 0, none⟩)] #[] := by
  cases st <;> exact ⟨_, rfl⟩

def CEnd (b : Nat) (R : Option (List UInt8)) (w : World) (e : Ending) (w' : World) : Prop :=
  Below b w w' ∧ ((e = .returned (.bool false) ∧ R = none) ∨
    (e = .returned (.bool true) ∧ ∃ st ys seg high, st ≠ .root ∧ CAt w' b ys seg (resOf b st) high ∧ CInv R st ys seg high [] ∧ ys.length ≤ 200))

set_option maxRecDepth 100000 in
set_option maxHeartbeats 6400000 in
theorem takes_c (b : Nat) (s : ByteArray) (R : Option (List UInt8)) (hR : R = rootR s.data.toList) (w : World) (h : CAt w b [] 0 .nilFunc 0) (hcls : Cls w) (hg : 0 < b) (hs : s.size ≤ 40) (hs0 : 0 < s.size) :
    Calls Tryd.prog 34 #[cV b .root, .string s] w (CEnd b R w) := by
  have hq1 := step_nil
  have hq2 := step_not_nil
  have hfst : Hid (CInv R .root [] 0 0 (s.data.toList.drop 0)) := Lib.hid ⟨rfl, by rw [List.drop_zero]; exact hR⟩
  go_enter Tryd.func34, Tryd.ntmps34
  go_wp2_with fail
  go_loopw [0, 8] (fun f i wr => ∃ (k : Nat) (st : CS) (ys : List UInt8) (seg high : Nat), k ≤ s.size ∧ i = .int .i64 k ∧ f = cV b st ∧ (st = .root → k = 0) ∧ CAt wr b ys seg (resOf b st) high ∧ ys.length ≤ 3 * k ∧ Hid (CInv R st ys seg high (s.data.toList.drop k)) ∧ Below b w wr) (fun _ i _ => s.size - (intOf i).toNat)
  case atStart => exact ⟨0, .root, [], 0, 0, Nat.zero_le _, rfl, rfl, fun _ => rfl, h, by simp, hfst, Below.refl _ _⟩
  case round =>
    clear hR h hfst
    obtain ⟨k, st, ys, seg, high, hk, rfl, rfl, hrt, hm, hlen, HI, hbel⟩ := hrel
    have hcw := hcls.belowB hbel hg
    by_cases hlt : k < s.size
    · rw [drop_at s k hlt] at HI
      cases st with
      | root =>
        obtain ⟨rfl, hI⟩ := HI.out
        have c1 := s_root b R s[k] _ seg high wr hm hI
        unfold cV
        generalize hd : s.data.toList.drop (k + 1) = l at c1
        have HD := Lib.hid hd
        clear HI hm hd hrt
        go_wp2_with fail
        refine c1.mono ?_
        rintro e w1 (⟨rfl, hn, hb⟩ | ⟨st2, ys2, seg2, high2, h0, rfl, h1, h2, h3, h4⟩)
        · clear c1
          go_wp2
          go_ret
          exact ⟨hbel.trans hb, .inl ⟨rfl, hn⟩⟩
        · clear c1
          obtain ⟨N, hX⟩ := c_form b st2
          rw [hX]
          have HX := Lib.hid hX; clear hX
          go_wp2
          go_roundw
          case rel => exact ⟨k + 1, st2, ys2, seg2, high2, by omega, by go_num, HX.out.symm, fun h => absurd h h0, h1, by omega, by rw [HD.out]; exact h2, hbel.trans h4⟩
          case measure => simp [intOf]; omega
      | path =>
        have c1 := s_path b R ys _ s[k] seg high wr hm hcw hg (by omega) HI.out
        unfold cV pathV
        generalize hd : s.data.toList.drop (k + 1) = l at c1
        have HD := Lib.hid hd
        clear HI hm hd hrt
        go_wp2_with fail
        refine c1.mono ?_
        rintro e w1 (⟨rfl, hn, hb⟩ | ⟨st2, ys2, seg2, high2, h0, rfl, h1, h2, h3, h4⟩)
        · clear c1
          go_wp2
          go_ret
          exact ⟨hbel.trans hb, .inl ⟨rfl, hn⟩⟩
        · clear c1
          obtain ⟨N, hX⟩ := c_form b st2
          rw [hX]
          have HX := Lib.hid hX; clear hX
          go_wp2
          go_roundw
          case rel => exact ⟨k + 1, st2, ys2, seg2, high2, by omega, by go_num, HX.out.symm, fun h => absurd h h0, h1, by omega, by rw [HD.out]; exact h2, hbel.trans h4⟩
          case measure => simp [intOf]; omega
      | query =>
        have c1 := s_query b R ys _ s[k] seg high wr hm hcw (by omega) HI.out
        unfold cV queryV
        generalize hd : s.data.toList.drop (k + 1) = l at c1
        have HD := Lib.hid hd
        clear HI hm hd hrt
        go_wp2_with fail
        refine c1.mono ?_
        rintro e w1 (⟨rfl, hn, hb⟩ | ⟨st2, ys2, seg2, high2, h0, rfl, h1, h2, h3, h4⟩)
        · clear c1
          go_wp2
          go_ret
          exact ⟨hbel.trans hb, .inl ⟨rfl, hn⟩⟩
        · clear c1
          obtain ⟨N, hX⟩ := c_form b st2
          rw [hX]
          have HX := Lib.hid hX; clear hX
          go_wp2
          go_roundw
          case rel => exact ⟨k + 1, st2, ys2, seg2, high2, by omega, by go_num, HX.out.symm, fun h => absurd h h0, h1, by omega, by rw [HD.out]; exact h2, hbel.trans h4⟩
          case measure => simp [intOf]; omega
      | d1 q =>
        have c1 := s_d1 b q R ys _ s[k] seg high wr hm HI.out
        unfold cV
        generalize hd : s.data.toList.drop (k + 1) = l at c1
        have HD := Lib.hid hd
        clear HI hm hd hrt
        go_wp2_with fail
        refine c1.mono ?_
        rintro e w1 (⟨rfl, hn, hb⟩ | ⟨st2, ys2, seg2, high2, h0, rfl, h1, h2, h3, h4⟩)
        · clear c1
          go_wp2
          go_ret
          exact ⟨hbel.trans hb, .inl ⟨rfl, hn⟩⟩
        · clear c1
          obtain ⟨N, hX⟩ := c_form b st2
          rw [hX]
          have HX := Lib.hid hX; clear hX
          go_wp2
          go_roundw
          case rel => exact ⟨k + 1, st2, ys2, seg2, high2, by omega, by go_num, HX.out.symm, fun h => absurd h h0, h1, by omega, by rw [HD.out]; exact h2, hbel.trans h4⟩
          case measure => simp [intOf]; omega
      | d2 q =>
        have c1 := s_d2 b q R ys _ s[k] seg high wr hm hcw hg (by omega) HI.out
        unfold cV
        generalize hd : s.data.toList.drop (k + 1) = l at c1
        have HD := Lib.hid hd
        clear HI hm hd hrt
        go_wp2_with fail
        refine c1.mono ?_
        rintro e w1 (⟨rfl, hn, hb⟩ | ⟨st2, ys2, seg2, high2, h0, rfl, h1, h2, h3, h4⟩)
        · clear c1
          go_wp2
          go_ret
          exact ⟨hbel.trans hb, .inl ⟨rfl, hn⟩⟩
        · clear c1
          obtain ⟨N, hX⟩ := c_form b st2
          rw [hX]
          have HX := Lib.hid hX; clear hX
          go_wp2
          go_roundw
          case rel => exact ⟨k + 1, st2, ys2, seg2, high2, by omega, by go_num, HX.out.symm, fun h => absurd h h0, h1, by omega, by rw [HD.out]; exact h2, hbel.trans h4⟩
          case measure => simp [intOf]; omega
    · go_wp2
      go_ret
      rw [drop_end s k (by omega)] at HI
      exact ⟨hbel, .inr ⟨rfl, st, ys, seg, high, fun h => by have := hrt h; omega, hm, HI.out, by omega⟩⟩
end Go.Proofs.YthmljebpjohibaaDoor

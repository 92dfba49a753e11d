/- The laws' own helpers over houses: marked, held. -/
import Derived.Test.YtojmfcpkmknleaaDoorCfgA
namespace Go.Proofs.YtojmfcpkmknleaaDoor
open Go.RowKit Go.Maps

theorem kAt_le (k : Nat) (F : Nat → Hs) {i j : Nat} (h : i ≤ j) : kAt k F i ≤ kAt k F j := by
  induction j with
  | zero => have : i = 0 := by omega
            subst this; exact Nat.le_refl _
  | succ j ih =>
    by_cases e : i = j + 1
    · subst e; exact Nat.le_refl _
    · have := ih (by omega)
      show kAt k F i ≤ kAt k F j + (F j).names.length + 3
      omega
theorem kAt_step (k : Nat) (F : Nat → Hs) (j : Nat) : kAt k F (j + 1) = kAt k F j + (F j).names.length + 3 := rfl
def updF (F : Nat → Hs) (j : Nat) (x : Hs) : Nat → Hs := fun i => if i = j then x else F i
theorem mkTo_step (k : Nat) (F : Nat → Hs) (j : Nat) : updF (mkTo k F j) j (mkHouse (kAt k F j) (F j).names.length) = mkTo k F (j + 1) := by
  funext i
  unfold updF mkTo
  by_cases e : i = j
  · subst e; simp
  · rw [if_neg e]
    by_cases hi : i < j
    · rw [if_pos hi, if_pos (by omega)]
    · rw [if_neg hi, if_neg (by omega)]
theorem mkTo_at (k : Nat) (F : Nat → Hs) (j : Nat) : mkTo k F j j = F j := by simp [mkTo]

def set3 (w : World) (g j : Nat) (a b c : Value) : World := ((w.setCell ⟨g, j * 4 + 1, none⟩ a).setCell ⟨g, j * 4 + 2, none⟩ b).setCell ⟨g, j * 4 + 3, none⟩ c
theorem set3_other (w : World) (g j : Nat) (a b c : Value) {x : Nat} (h : x ≠ g) : (set3 w g j a b c).heap[x]? = w.heap[x]? := by
  unfold set3
  rw [heap_setCell_other _ ⟨g, j * 4 + 3, none⟩ x _ (by simpa using h), heap_setCell_other _ ⟨g, j * 4 + 2, none⟩ x _ (by simpa using h), heap_setCell_other _ ⟨g, j * 4 + 1, none⟩ x _ (by simpa using h)]
theorem set3_frm {a w : World} {g n : Nat} {us : Nat → Value} (h : Frm a w g n us) (j : Nat) (x y z : Value) : Frm a (set3 w g j x y z) g n us := by
  have q : ∀ (W : World) (i : Nat) (v : Value), Frm a W g n us → Frm a (W.setCell ⟨g, i, none⟩ v) g n us := fun W i v hW =>
    hW.grown (row := some g) ⟨rfl, rfl, rfl, by simp, fun j _ hj => heap_setCell_other W ⟨g, i, none⟩ j _ (fun e => hj (by simp [e]))⟩ (fun r e => by cases e; exact .inl rfl)
  exact q _ _ _ (q _ _ _ (q _ _ _ h))
theorem hf_mark {w w1 : World} {B g n j : Nat} {F : Nat → Hs} {us : Nat → Value} (h : HF w B g n F us) (hj : j < n) (hg : w.grownBy w1 (us j).ownBlock) (x : Hs) (ho : w1.ownsRow B 9 1 (us j) x.names.length (x.names.map Value.string)) :
    HF (set3 w1 g j (.int .i64 x.key) (.int .i64 x.maxN) (.int .i64 x.maxB)) B g n (updF F j x) us := by
  have hlt := h.lt
  obtain ⟨h0, ⟨cur, t, hh, hsz, hc⟩, hr, hd⟩ := h
  have hgg : w1.heap[g]? = some (.cells cur t (0, 0)) := (hg.block g hlt (fun e => (hr j hj).2 e.symm)).trans hh
  have s1 := heap_setCell_same w1 g (j * 4 + 1) cur t (.int .i64 x.key) hgg
  have s2 := heap_setCell_same _ g (j * 4 + 2) _ t (.int .i64 x.maxN) s1
  have s3 := heap_setCell_same _ g (j * 4 + 3) _ t (.int .i64 x.maxB) s2
  refine ⟨h0, ⟨_, t, s3, by simpa using hsz, fun i hi => ?_⟩, fun i hi => ?_, hd⟩
  · obtain ⟨c0, c1, c2, c3⟩ := hc i hi
    unfold updF
    by_cases e : i = j
    · subst e
      simp only [if_true]
      refine ⟨?_, ?_, ?_, ?_⟩
      · rw [Array.getElem?_setIfInBounds_ne (by omega), Array.getElem?_setIfInBounds_ne (by omega), Array.getElem?_setIfInBounds_ne (by omega)]; exact c0
      · rw [Array.getElem?_setIfInBounds_ne (by omega), Array.getElem?_setIfInBounds_ne (by omega), Array.getElem?_setIfInBounds_self_of_lt (by omega)]
      · rw [Array.getElem?_setIfInBounds_ne (by omega), Array.getElem?_setIfInBounds_self_of_lt (by simp; omega)]
      · rw [Array.getElem?_setIfInBounds_self_of_lt (by simp; omega)]
    · simp only [if_neg e]
      refine ⟨?_, ?_, ?_, ?_⟩
      all_goals
        rw [Array.getElem?_setIfInBounds_ne (by omega), Array.getElem?_setIfInBounds_ne (by omega), Array.getElem?_setIfInBounds_ne (by omega)]
        assumption
  · obtain ⟨q1, q2⟩ := hr i hi
    refine ⟨?_, q2⟩
    unfold updF
    by_cases e : i = j
    · subst e
      simp only [if_true]
      exact own_same ho fun b hb => set3_other w1 g i _ _ _ (fun e => q2 (by rw [hb, e]))
    · simp only [if_neg e]
      refine own_same q1 fun b hb => (set3_other w1 g j _ _ _ (fun e => q2 (by rw [hb, e]))).trans (hg.block b (q1.lt b hb).2 (fun e2 => ?_))
      rw [← hb] at e2
      rcases Nat.lt_or_gt_of_ne e with k | k
      · rcases hd i j k hj with z | z
        · rw [z] at hb; cases hb
        · exact z e2
      · rcases hd j i k hi with z | z
        · rw [z, hb] at e2; cases e2
        · exact z e2.symm

set_option maxRecDepth 100000 in
set_option maxHeartbeats 3200000 in
theorem mark_houses (g c k n B : Nat) (F : Nat → Hs) (us : Nat → Value) (w : World) (h : HF w B g n F us) (hk : kAt k F n < 10000000) :
    Calls Tryd.prog 40 #[.slice (some ⟨g, 0, none⟩) n c, .int .i64 (k : Int)] w fun e w' => e = .returned (.int .i64 ((kAt k F n : Nat) : Int)) ∧ HF w' B g n (mkTo k F n) us ∧ Frm w w' g n us := by
  have hsmall : n < 10000000 := by
    have : ∀ m, m ≤ kAt k F m := fun m => by
      induction m with
      | zero => exact Nat.zero_le _
      | succ m ih => unfold kAt; omega
    have := this n
    omega
  go_enter Tryd.func40, Tryd.ntmps40
  go_wp2_with fail
  go_loopw [1, 5] (fun q i wr => ∃ j : Nat, j ≤ n ∧ i = .int .i64 j ∧ q = .int .i64 ((kAt k F j : Nat) : Int) ∧ HF wr B g n (mkTo k F j) us ∧ Frm w wr g n us) (fun _ i _ => n - (intOf i).toNat)
  case atStart => exact ⟨0, Nat.zero_le _, rfl, rfl, h.congr (fun i _ => by simp [mkTo]), Frm.refl _ _ _ _⟩
  case round =>
    obtain ⟨j, hj, rfl, rfl, hown, hfr⟩ := hrel
    by_cases hlt : j < n
    · have hkj := kAt_le k F (show j + 1 ≤ n from hlt)
      rw [kAt_step] at hkj
      obtain ⟨c0, _⟩ := hown.cells hlt
      obtain ⟨ho, hne⟩ := hown.2.2.1 j hlt
      rw [mkTo_at] at ho
      have hC := mark_strings (us j) (kAt k F j) (F j).names.length B _ wr (by omega) ho
      have hl := hown.lt
      have HO := Lib.hid hown
      have HFr := Lib.hid hfr
      have HNe := Lib.hid hne
      have HStep := Lib.hid (kAt_step k F j)
      have HTo := Lib.hid (mkTo_step k F j)
      clear ho hown hfr hne
      generalize kAt k F j = kj at *
      go_wp2_with fail
      refine hC.mono ?_
      rintro e w1 ⟨rfl, ho1, hg1⟩
      have hst := hf_mark HO.out hlt hg1 (mkHouse kj (F j).names.length) (by unfold mkHouse; simp only [mk_len, mk_marks]; exact ho1)
      rw [HTo.out] at hst
      have hblk := (hg1.block g hl (fun e => HNe.out e.symm))
      obtain ⟨_, ⟨cur, t, hh, hsz, _⟩, _⟩ := HO.out
      have hh1 := hblk.trans hh
      have fz : ∀ x, w1.frozen? ⟨g, x, none⟩ = false := fun x => by simp [World.frozen?, hh1]
      have ce : ∀ x, x < n * 4 → w1.cell? ⟨g, x, none⟩ = some (cur[x]?.getD undef) := fun x hx => by
        simp [World.cell?, hh1, Array.getElem?_eq_getElem (show x < cur.size by omega)]
      have e1 := ce (j * 4 + 1) (by omega)
      have e2 := ce (j * 4 + 2) (by omega)
      have e3 := ce (j * 4 + 3) (by omega)
      have f1 := fz (j * 4 + 1)
      have f2 := fz (j * 4 + 2)
      have f3 := fz (j * 4 + 3)
      have hF2 := set3_frm (HFr.out.grown hg1 (fun r e => .inr ⟨j, hlt, e⟩)) j (.int .i64 (mkHouse kj (F j).names.length).key) (.int .i64 (mkHouse kj (F j).names.length).maxN) (.int .i64 (mkHouse kj (F j).names.length).maxB)
      have HS := Lib.hid (And.intro hst hF2)
      clear hC hg1 ho1 hst hF2 hblk hh hh1 fz ce c0 hsz
      generalize cur[j * 4 + 1]?.getD undef = y1 at *
      generalize cur[j * 4 + 2]?.getD undef = y2 at *
      generalize cur[j * 4 + 3]?.getD undef = y3 at *
      have ea : ((kj + (F j).names.length : Nat) : Int) = (kj : Int) + ((F j).names.length : Int) := by omega
      have eb : ((kj + (F j).names.length + 1 : Nat) : Int) = (kj : Int) + ((F j).names.length : Int) + 1 := by omega
      have ec : ((kj + (F j).names.length + 2 : Nat) : Int) = (kj : Int) + ((F j).names.length : Int) + 1 + 1 := by omega
      have hs2 := HS.out
      unfold set3 mkHouse at hs2
      dsimp only at hs2
      rw [ea, eb, ec] at hs2
      have HS2 := Lib.hid hs2
      have HE := Lib.hid (And.intro ea (And.intro eb ec))
      clear hs2 HS ea eb ec
      go_wp2
      exact ⟨⟨j + 1, by omega, by simp, by rw [HStep.out]; exact congrArg (Value.int .i64) (by omega), HS2.out⟩, by simp [intOf]; omega⟩
    · have hjn : j = n := by omega
      subst hjn
      go_wp2
      go_ret
      exact ⟨rfl, hown, hfr⟩

set_option maxRecDepth 100000 in
set_option maxHeartbeats 3200000 in
theorem held_houses (g c k n B : Nat) (F F0 : Nat → Hs) (us : Nat → Value) (w : World) (h : HF w B g n F us) (hm : ∀ i, i < n → F i = mkHouse (kAt k F0 i) (F0 i).names.length) (hk : kAt k F0 n < 10000000) :
    Calls Tryd.prog 41 #[.slice (some ⟨g, 0, none⟩) n c, .int .i64 (k : Int)] w fun e w' => e = .returned (.int .i64 ((kAt k F0 n : Nat) : Int)) ∧ Below w.heap.size w w' := by
  have hsmall : n < 10000000 := by
    have : ∀ m, m ≤ kAt k F0 m := fun m => by
      induction m with
      | zero => exact Nat.zero_le _
      | succ m ih => show m + 1 ≤ kAt k F0 m + (F0 m).names.length + 3; omega
    have := this n
    omega
  have HO := Lib.hid h
  have HM := Lib.hid hm
  clear h hm
  go_enter Tryd.func41, Tryd.ntmps41
  go_wp2_with fail
  go_loopw [1, 5] (fun q i wr => ∃ j : Nat, j ≤ n ∧ i = .int .i64 j ∧ q = .int .i64 ((kAt k F0 j : Nat) : Int) ∧ Below w.heap.size w wr) (fun _ i _ => n - (intOf i).toNat)
  case atStart => exact ⟨0, Nat.zero_le _, rfl, rfl, Below.refl _ _⟩
  case round =>
    obtain ⟨j, hj, rfl, rfl, hnx⟩ := hrel
    by_cases hlt : j < n
    · have hkj := kAt_le k F0 (show j + 1 ≤ n from hlt)
      rw [kAt_step] at hkj
      have hO := HO.out.below hnx
      obtain ⟨c0, _⟩ := hO.cells hlt
      obtain ⟨ho, _⟩ := hO.2.2.1 j hlt
      have hFj := HM.out j hlt
      rw [hFj] at ho
      have hr : Rd1 wr (us j) (marks (kAt k F0 j) (F0 j).names.length) := by
        have := Rd1.of_own ho
        unfold mkHouse at this
        simp only [mk_marks] at this
        exact this
      have hC := held_strings (us j) (kAt k F0 j) (F0 j).names.length wr (by omega) hr (fun b hb => (ho.lt b hb).2)
      have HStep := Lib.hid (kAt_step k F0 j)
      have HNx := Lib.hid hnx
      have HFj := Lib.hid hFj
      clear ho hr hO hnx hFj
      generalize kAt k F0 j = kj at *
      go_wp2_with fail
      refine hC.mono ?_
      rintro e w1 ⟨rfl, hb1⟩
      have hb := HNx.out.trans (hb1.mono HNx.out.size)
      obtain ⟨_, e1, e2, e3⟩ := (HO.out.below hb).cells hlt
      rw [HFj.out] at e1 e2 e3
      unfold mkHouse at e1 e2 e3
      dsimp only at e1 e2 e3
      have ea : ((kj + (F0 j).names.length : Nat) : Int) = (kj : Int) + ((F0 j).names.length : Int) := by omega
      have eb : ((kj + (F0 j).names.length + 1 : Nat) : Int) = (kj : Int) + ((F0 j).names.length : Int) + 1 := by omega
      have ec : ((kj + (F0 j).names.length + 2 : Nat) : Int) = (kj : Int) + ((F0 j).names.length : Int) + 1 + 1 := by omega
      rw [ea] at e1
      rw [eb] at e2
      rw [ec] at e3
      have i1 : ¬ ((kj : Int) + ((F0 j).names.length : Int) < 0) := by omega
      have HB := Lib.hid hb
      have HE := Lib.hid (And.intro ea (And.intro eb ec))
      clear hC hb1 hb ea eb ec c0
      go_wp2
      exact ⟨⟨j + 1, by omega, by simp, by rw [HStep.out]; exact congrArg (Value.int .i64) (by omega), HB.out⟩, by simp [intOf]; omega⟩
    · have hjn : j = n := by omega
      subst hjn
      go_wp2
      go_ret
      exact ⟨rfl, hnx⟩
end Go.Proofs.YtojmfcpkmknleaaDoor

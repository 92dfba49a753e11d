/- Fields: the lists of fields, the map of places that the program makes of one, and the values of a name. -/
import Derived.Test.YtncegikmpapldaaGreatDoorGrp
import Derived.Test.YtncegikmpapldaaGreatDoorRows
import Derived.Test.YtncegikmpapldaaGreatDoorShelf
import Derived.WalkKit
import Derived.WalkSpells
import Derived.WalkLawsBesides
import Derived.BigQuiet
import Derived.Deep.RegionLaw
import Derived.Deep.AppendLies
import Derived.Lib.Hide
namespace Go.Proofs.YtncegikmpapldaaGreatDoor
open Go.RowKit Go.Maps

abbrev Fd := ByteArray × ByteArray

/-- A slice that reads as a list of fields. -/
def FRow (w : World) (v : Value) (fs : List Fd) : Prop :=
  ∃ a c, v = .slice a fs.length c ∧ fs.length ≤ c ∧ c ≤ maxLen ∧ ∀ j f, fs[j]? = some f → ∃ b o, a = some ⟨b, o, none⟩ ∧ b < w.heap.size ∧ w.cell? ⟨b, o + j * 2, none⟩ = some (.string f.1) ∧ w.cell? ⟨b, o + j * 2 + 1, none⟩ = some (.string f.2)

theorem FRow.below {w w' : World} {v : Value} {fs : List Fd} (h : FRow w v fs) {B : Nat} (hB : w.heap.size ≤ B) (hb : Below B w w') : FRow w' v fs := by
  obtain ⟨a, c, rfl, h1, h2, h3⟩ := h
  refine ⟨a, c, rfl, h1, h2, fun j f hj => ?_⟩
  obtain ⟨b, o, rfl, hlt, c1, c2⟩ := h3 j f hj
  exact ⟨b, o, rfl, Nat.lt_of_lt_of_le hlt hb.size, (hb.cell (p := ⟨b, o + j * 2, none⟩) (Nat.lt_of_lt_of_le hlt hB)).trans c1, (hb.cell (p := ⟨b, o + j * 2 + 1, none⟩) (Nat.lt_of_lt_of_le hlt hB)).trans c2⟩
theorem FRow.drewN {w : World} {v : Value} {fs : List Fd} (h : FRow w v fs) (n : Nat) : FRow (w.drewN n) v fs := h

/-- All texts of the fields are of a text's length. -/
def FOk (fs : List Fd) (K : Nat) : Prop := ∀ f ∈ fs, f.1.size ≤ K ∧ f.2.size ≤ K

/-- The places of a name among the first k fields. -/
def idxTo (fs : List Fd) (s : ByteArray) : Nat → List Int
  | 0 => []
  | k + 1 => match fs[k]? with
    | some f => if f.1 = s then idxTo fs s k ++ [(k : Int)] else idxTo fs s k
    | none => idxTo fs s k
/-- The values of a name among the first k fields. -/
def allTo (fs : List Fd) (s : ByteArray) : Nat → List ByteArray
  | 0 => []
  | k + 1 => match fs[k]? with
    | some f => if f.1 = s then allTo fs s k ++ [f.2] else allTo fs s k
    | none => allTo fs s k
def valAt (fs : List Fd) (j : Int) : ByteArray := ((fs[j.toNat]?).map (·.2)).getD ByteArray.empty

theorem idx_vals (fs : List Fd) (s : ByteArray) (k : Nat) : (idxTo fs s k).map (valAt fs) = allTo fs s k := by
  induction k with
  | zero => rfl
  | succ k ih =>
    unfold idxTo allTo
    cases hf : fs[k]? with
    | none => exact ih
    | some f =>
      dsimp only
      split
      · rw [List.map_append, ih]; simp [valAt, hf]
      · exact ih
theorem idx_lt (fs : List Fd) (s : ByteArray) (k : Nat) : ∀ j ∈ idxTo fs s k, 0 ≤ j ∧ j < k ∧ j < fs.length := by
  induction k with
  | zero => simp [idxTo]
  | succ k ih =>
    intro j hj
    unfold idxTo at hj
    have old : j ∈ idxTo fs s k → 0 ≤ j ∧ j < (k + 1 : Nat) ∧ j < fs.length := fun h => by have := ih j h; omega
    cases hf : fs[k]? with
    | none => rw [hf] at hj; exact old hj
    | some f =>
      have hk : k < fs.length := (List.getElem?_eq_some_iff.1 hf).1
      rw [hf] at hj
      dsimp only at hj
      split at hj
      · rcases List.mem_append.1 hj with h | h
        · exact old h
        · have : j = k := by simpa using h
          omega
      · exact old hj
theorem idx_len (fs : List Fd) (s : ByteArray) (k : Nat) : (idxTo fs s k).length ≤ k := by
  induction k with
  | zero => simp [idxTo]
  | succ k ih =>
    unfold idxTo
    cases fs[k]? with
    | none => exact Nat.le_succ_of_le ih
    | some f =>
      dsimp only
      split
      · simp; omega
      · exact Nat.le_succ_of_le ih

/-- What the map holds behind k rounds. -/
def Holds (D : DataW Unit) (fs : List Fd) (k : Nat) : Prop := IsMap D ∧ ∀ s : ByteArray, D.atKey (.string s.data.toList) .nil = rowD (idxTo fs s k)

theorem holds_start (fs : List Fd) : Holds (.map []) fs 0 := ⟨isMap_empty, fun __s => rfl⟩
theorem isMap_put {D : DataW Unit} (h : IsMap D) (k : Lit) (d : DataW Unit) : IsMap (D.put k d) := by
  obtain ⟨es, rfl⟩ := h
  exact ⟨_, rfl⟩
theorem str_inj {a b : ByteArray} (h : a.data.toList = b.data.toList) : a = b := by
  cases a; cases b; simpa [Array.toList_inj] using h
theorem idxTo_at {fs : List Fd} {k : Nat} {f : Fd} (s : ByteArray) (hf : fs[k]? = some f) : idxTo fs s (k + 1) = if f.1 = s then idxTo fs s k ++ [(k : Int)] else idxTo fs s k := by simp [idxTo, hf]
theorem allTo_at {fs : List Fd} {k : Nat} {f : Fd} (s : ByteArray) (hf : fs[k]? = some f) : allTo fs s (k + 1) = if f.1 = s then allTo fs s k ++ [f.2] else allTo fs s k := by simp [allTo, hf]
theorem holds_step {D : DataW Unit} {fs : List Fd} {k : Nat} {f : Fd} (h : Holds D fs k) (hf : fs[k]? = some f) : Holds (D.put (.string f.1.data.toList) (rowD (idxTo fs f.1 k ++ [(k : Int)]))) fs (k + 1) := by
  refine ⟨isMap_put h.1 _ _, fun s => ?_⟩
  rw [idxTo_at s hf]
  by_cases hs : f.1 = s
  · rw [if_pos hs, ← hs, atKey_put_same h.1 (by exact trivial)]
  · rw [if_neg hs, atKey_put_other (fun e => hs (str_inj (by injection e with e; exact e.symm)))]
    exact h.2 s

theorem law9 : Keyed Tryz.prog 9 := string_keyed Tryz.underlying9
theorem zeroInts (w : World) : (zeroValue 105).run Tryz.prog w = .ok (.slice none 0 0) w := by kernel_rfl
theorem Tryz.infoInt : (Tryz.prog.info? 3).map (fun i => (i.zero, i.size, i.bytes)) = some (some (.int .i64 0), 1, 8) := by kernel_rfl

set_option maxHeartbeats 400000 in
theorem fields_of (v : Value) (fs : List Fd) (w : World) (h : FRow w v fs) (hok : FOk fs maxLen) (hn : fs.length ≤ 2000000) :
    Calls Tryz.prog 117 #[v] w fun e w' => e = .returned (.agg #[v, .map (some (w.heap.size + 1))]) ∧ ∃ D, w'.ownsGroups Tryz.prog 9 (w.heap.size + 2) 3 .i64 (w.heap.size + 1) fs.length D ∧ Holds D fs fs.length ∧ Below w.heap.size w w' := by
  obtain ⟨a, c, rfl, h1, h2, h3⟩ := h
  have hmm := @run_makeMap Tryz.prog
  obtain ⟨i0, hi, hz0, hz1, hz2⟩ := info_parts Tryz.infoInt
  have H3 := Lib.hid h3; clear h3
  unfold maxLen at h2
  go_enter Tryz.func117, Tryz.ntmps117
  go_wp2
  go_loopw [9] (fun i wr => ∃ (k : Nat) (D : DataW Unit), k ≤ fs.length ∧ i = .int .i64 k ∧ wr.ownsGroups Tryz.prog 9 (w.heap.size + 2) 3 .i64 (w.heap.size + 1) k D ∧ Hid (Holds D fs k) ∧ Below (w.heap.size + 1) (w.alloc (.cells #[.slice none 0 0, .map none] 139)) wr ∧ w.heap.size + 2 ≤ wr.heap.size) (fun i _ => fs.length - (intOf i).toNat)
  case atStart => exact ⟨0, .map [], Nat.zero_le _, rfl, by have := World.ownsGroups_made (H := Unit) (w.alloc (.cells #[.slice none 0 0, .map none] 139)) Tryz.prog 9 3 .i64; simpa using this, Lib.hid (holds_start fs), (Below.refl _ _).alloc (by simp) _, by simp⟩
  case round =>
    obtain ⟨k, D, hk, rfl, hown, hD, hnx, hws⟩ := hrel
    by_cases hlt : k < fs.length
    · obtain ⟨b, o, rfl, hblt, c1, c2⟩ := H3.out k fs[k] (List.getElem?_eq_getElem hlt)
      obtain ⟨f, hf⟩ : ∃ f, f = fs[k] := ⟨_, rfl⟩
      rw [← hf] at c1 c2
      have hfk : fs[k]? = some f := by rw [hf]; exact List.getElem?_eq_getElem hlt
      have hfo := hok f (by rw [hf]; exact List.getElem_mem _)
      clear hf
      obtain ⟨nm, vl⟩ := f
      have e1 : (w.alloc (.cells #[.slice none 0 0, .map none] 139)).cell? ⟨b, o + k * 2, none⟩ = some (.string nm) := (Below.refl w.heap.size w |>.alloc (Nat.le_refl _) _).cell (p := ⟨b, o + k * 2, none⟩) hblt |>.trans c1
      have e2 : (w.alloc (.cells #[.slice none 0 0, .map none] 139)).cell? ⟨b, o + k * 2 + 1, none⟩ = some (.string vl) := (Below.refl w.heap.size w |>.alloc (Nat.le_refl _) _).cell (p := ⟨b, o + k * 2 + 1, none⟩) hblt |>.trans c2
      have g1 := (hnx.cell (p := ⟨b, o + k * 2, none⟩) (Nat.lt_succ_of_lt hblt)).trans e1
      have g2 := (hnx.cell (p := ⟨b, o + k * 2 + 1, none⟩) (Nat.lt_succ_of_lt hblt)).trans e2
      clear c1 c2 e1 e2
      obtain ⟨W, hW⟩ : ∃ W, W = wr.alloc (.cells #[.string nm, .string vl] 50) := ⟨_, rfl⟩
      have hWs : W.heap.size = wr.heap.size + 1 := by rw [hW]; simp
      have hbW : Below wr.heap.size wr W := by rw [hW]; exact (Below.refl _ _).alloc (Nat.le_refl _) _
      have hnW : Below (w.heap.size + 1) (w.alloc (.cells #[.slice none 0 0, .map none] 139)) W := hnx.trans (hbW.mono (by omega))
      obtain ⟨u, zs, hlook, hat, hoi, hzl, hback⟩ := groups_at hown law9 Tryz.underlying137 zeroInts (by unfold maxLen; omega) (Go.WideMaps.keyOf_string_mk Tryz.underlying9 hfo.1)
      have hbl : w.heap.size + 1 < wr.heap.size := by omega
      have hbo : ∀ o : Obj, Below wr.heap.size wr (W.alloc o).drew := fun o => (hbW.alloc hbW.size o).drew
      have hult := hoi.1.lt
      rw [hD.out.2 nm] at hat
      have hWs1 : w.heap.size + 1 ≤ W.drew.heap.size := by show w.heap.size + 1 ≤ W.heap.size; omega
      have hzs := rowD_inv hoi hat
      have lk0 := hlook W.drew (hbW.drew.block _ hbl)
      have lk1 : ∀ o, (Instr.lookup 137 (.map (some (w.heap.size + 1))) (.string nm) false).run Tryz.prog (W.alloc o).drew = .ok u (W.alloc o).drew := fun o => hlook _ ((hbo o).block _ hbl)
      have l1 : W.cell? ⟨wr.heap.size, 0, none⟩ = some (.string nm) := by rw [hW]; simp
      have l2 : W.cell? ⟨wr.heap.size, 1, none⟩ = some (.string vl) := by rw [hW]; simp
      have hO : ∀ o : Obj, (W.alloc o).drew.ownsRow (w.heap.size + 2) 3 1 u zs.length (zs.map (Value.int .i64)) := fun o => own_below hoi.1 (hbo o)
      have hC : ∀ T : TypeId, ∀ (j : Nat) x, [Value.int .i64 (k : Int)][j]? = some x → (W.alloc (.cells #[.int .i64 (k : Int)] T)).drew.cell? ((⟨wr.heap.size + 1, 0, none⟩ : Addr).add j) = some x := fun T j x hx => by
        rw [← hWs]
        match j, hx with
        | 0, hx => exact (World.cell?_alloc_at _ _ _ _ rfl).trans (by simpa using hx)
        | j + 1, hx => simp at hx
      have hN : ∀ (o : Obj) (g cap : Nat) (w3 : World), w3.ownsRow (w.heap.size + 2) 3 1 (.slice (some ⟨g, 0, none⟩) (zs.length + 1) cap) (zs.length + 1) (zs.map (Value.int .i64) ++ [.int .i64 (k : Int)]) → (W.alloc o).drew.grownBy w3 u.ownBlock → (u.ownBlock = some g ∨ g = wr.heap.size + 1 + 1) →
          w3.cell? ⟨wr.heap.size, 0, none⟩ = some (.string nm) ∧ ∃ w4, (Instr.mapUpdate 137 (.map (some (w.heap.size + 1))) (.string nm) (.slice (some ⟨g, 0, none⟩) (zs.length + 1) cap)).run Tryz.prog w3 = .ok () w4 ∧
            ∃ D', w4.ownsGroups Tryz.prog 9 (w.heap.size + 2) 3 .i64 (w.heap.size + 1) (k + 1) D' ∧ Hid (Holds D' fs (k + 1)) ∧ Below (w.heap.size + 1) (w.alloc (.cells #[.slice none 0 0, .map none] 139)) w4 ∧ w.heap.size + 2 ≤ w4.heap.size := by
        intro o g cap w3 h3 hg3 hl3
        have hown' := hoi.appended (x := (k : Int)) h3 (WalkArith.wf_i64 (by omega))
        have hall : wr.grownBy w3 u.ownBlock := (grown_of_below (hbo o) _).trans hg3
        obtain ⟨w4, hup, hown4, hg4⟩ := hback w3 _ (zs ++ [(k : Int)]) hall hown' (by simp; omega) (by
          rcases hl3 with h | h
          · exact .inl h.symm
          · exact .inr ⟨g, rfl, by omega⟩)
        refine ⟨?_, w4, hup, _, hown4, Lib.hid ?_, hnx.groups hoi hall hg4 (by omega) (Nat.le_succ _) (Nat.le_refl _), ?_⟩
        · refine (World.cell?_of_block (a := ⟨wr.heap.size, 0, none⟩) (hg3.block wr.heap.size (by simp [hWs]; omega) (fun e => ?_))).trans ((World.cell?_of_block (a := ⟨wr.heap.size, 0, none⟩) (Below.heap_alloc W o wr.heap.size (by omega))).trans l1)
          have := (hult wr.heap.size e.symm).2
          omega
        · rw [rowD_of hown' (by simp), hzs]
          exact holds_step hD.out hfk
        · have s1 := hall.size; have s2 := hg4.size
          omega
      have HO := Lib.hid hO; have HC := Lib.hid hC; have HN := Lib.hid hN
      have HW := Lib.hid hW
      have hz2k : zs.length ≤ 2000000 := by omega
      clear hO hC hN hback hoi hat hlook hbW hbo hult hnW hnx hown hzs hW
      go_wp2
      rw [← HW.out]
      clear g1 g2
      go_region_law (refine step_append_lies _ (by rfl) _ _ 105 (by rfl) (w.heap.size + 2) 3 i0 _ 1 8 Tryz.underlying105 hi hz0 hz1 hz2 (by rfl) (by decide) u zs.length (zs.map (Value.int .i64)) (by rfl) (HO.out _) ⟨wr.heap.size + 1, 0, none⟩ 1 1 [.int .i64 k] (by rfl) (by rfl) (HC.out _) (by intro x hx; simp at hx; subst hx; rfl) (by omega) (by unfold maxLen; omega) (by omega) (by simp [hWs]; omega) (wr.heap.size + 1 + 1) (by simp [hWs]) ?_; intro g cap w3 ho3 hg3 hat3 hlt3; obtain ⟨l3, w4, hup, hn4⟩ := HN.out _ g cap w3 ho3 hg3 hat3)
      all_goals go_wp2
      all_goals go_roundw
      all_goals first
        | (case rel => obtain ⟨D', q1, q2, q3, q4⟩ := hn4; exact ⟨k + 1, D', by omega, by go_num, q1, q2, q3, q4⟩)
        | (simp [intOf]; omega)
    · have hkn : k = fs.length := by omega
      subst hkn
      have r0 := (hnx.block w.heap.size (Nat.lt_succ_self _)).trans (heap_alloc_new w _)
      have k0 : wr.cell? ⟨w.heap.size, 0, none⟩ = some (.slice none 0 0) := by simp [World.cell?, r0]
      have k1 : wr.cell? ⟨w.heap.size, 1, none⟩ = some (.map none) := by simp [World.cell?, r0]
      have f0 : wr.frozen? ⟨w.heap.size, 0, none⟩ = false := by simp [World.frozen?, r0]
      have f1 : wr.frozen? ⟨w.heap.size, 1, none⟩ = false := by simp [World.frozen?, r0]
      have hend : ∀ x y : Value, ((wr.setCell ⟨w.heap.size, 0, none⟩ x).setCell ⟨w.heap.size, 1, none⟩ y).ownsGroups Tryz.prog 9 (w.heap.size + 2) 3 .i64 (w.heap.size + 1) fs.length D ∧ Below w.heap.size w ((wr.setCell ⟨w.heap.size, 0, none⟩ x).setCell ⟨w.heap.size, 1, none⟩ y) := fun x y =>
        ⟨groups_grown hown ((grown_set wr w.heap.size 0 x).trans (grown_set _ _ 1 y)) (fun r e => by cases e; omega), below_set (below_set (((Below.refl _ _).alloc (Nat.le_refl _) _).trans (hnx.mono (Nat.le_succ _))))⟩
      have HE := Lib.hid hend
      have HR := Lib.hid r0
      clear hend hown hnx r0
      have q0 : ∀ x y : Value, ((wr.setCell ⟨w.heap.size, 0, none⟩ x).setCell ⟨w.heap.size, 1, none⟩ y).cell? ⟨w.heap.size, 0, none⟩ = some x := fun x y => by
        have h1 := heap_setCell_same wr w.heap.size 0 _ _ x HR.out
        have h2 := heap_setCell_same _ w.heap.size 1 _ _ y h1
        simp [World.cell?, h2]
      have q1 : ∀ x y : Value, ((wr.setCell ⟨w.heap.size, 0, none⟩ x).setCell ⟨w.heap.size, 1, none⟩ y).cell? ⟨w.heap.size, 1, none⟩ = some y := fun x y => by
        have h1 := heap_setCell_same wr w.heap.size 0 _ _ x HR.out
        have h2 := heap_setCell_same _ w.heap.size 1 _ _ y h1
        simp [World.cell?, h2]
      have Q0 := Lib.hid q0; have Q1 := Lib.hid q1; clear q0 q1
      go_wp2
      have q0 := Q0.out; have q1 := Q1.out
      refine bodyPost_ret (v := .agg #[.slice a fs.length c, .map (some (w.heap.size + 1))]) (by simp [results, Tryz.results117, go_sem, q0, q1]) rfl ⟨rfl, D, (HE.out _ _).1, hD.out, (HE.out _ _).2⟩
end Go.Proofs.YtncegikmpapldaaGreatDoor

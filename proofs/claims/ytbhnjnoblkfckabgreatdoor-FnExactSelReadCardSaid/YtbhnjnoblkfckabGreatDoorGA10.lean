import Derived.Test.YtbhnjnoblkfckabGreatDoorGA09
import Derived.Test.YtbhnjnoblkfckabGreatDoorGA03
-- from XHtH
/- Walks: the text ahead of a request's body, by the program. -/
namespace Go.Proofs.YtbhnjnoblkfckabGreatDoor
open Go.RowKit

/-- A literal of two texts. -/
def RTwo (B : Nat) (x y : ByteArray) : Value → World → Prop := fun v w => ∃ g, v = .slice (some ⟨g, 0, none⟩) 2 2 ∧ B ≤ g ∧ w.heap[g]? = some (.cells #[.string x, .string y] 9 (0, 0))

/-- What stays while new blocks come. -/
def Steady (R : Value → World → Prop) : Prop := ∀ v w w', R v w → Below w.heap.size w w' → R v w'
theorem steady_eq (x : Value) : Steady (REq x) := fun _ _ _ h _ => h
theorem steady_two (B : Nat) (x y : ByteArray) : Steady (RTwo B x y) := fun _ _ _ ⟨g, h1, h2, h3⟩ hb => ⟨g, h1, h2, (hb.block g (Array.getElem?_eq_some_iff.1 h3).1).trans h3⟩
def SteadyAll : List (Value → World → Prop) → Prop
  | [] => True
  | r :: rs => Steady r ∧ SteadyAll rs
theorem steady_at : ∀ {Rs : List (Value → World → Prop)} {i : Nat}, SteadyAll Rs → Steady (RAt Rs i)
  | [], i, _ => fun _ _ _ _ _ => by simp [RAt]
  | r :: rs, 0, h => by simpa [RAt] using h.1
  | r :: rs, i + 1, h => by simpa [RAt] using steady_at (Rs := rs) (i := i) h.2

theorem own_texts {w : World} {B n : Nat} {T : TypeId} {v : Value} {L : List (List UInt8)} (h : w.ownsRow B T 1 v n (L.map strV)) (hpos : 0 < n) :
    n = L.length ∧ ∃ g cap, v = .slice (some ⟨g, 0, none⟩) n cap ∧ n ≤ cap ∧ g < w.heap.size ∧ ∀ (j : Nat) x, (L.map fun l : List UInt8 => (⟨l.toArray⟩ : ByteArray))[j]? = some x → w.cell? ⟨g, 0 + j, none⟩ = some (.string x) := by
  have hn : n = L.length := by have := h.1; simpa using this.symm
  refine ⟨hn, ?_⟩
  rcases h.2 with ⟨rfl, h0⟩ | ⟨g, cap, cur, rfl, hB, hh, hc, hm, _, _⟩
  · omega
  · refine ⟨g, cap, rfl, hc, (Array.getElem?_eq_some_iff.1 hh).1, fun j x hj => ?_⟩
    rw [Nat.zero_add]
    refine own_cell h ?_
    rw [List.getElem?_map] at hj ⊢
    obtain ⟨l, hl, rfl⟩ := Option.map_eq_some_iff.1 hj
    rw [hl]; rfl
theorem map_texts (L : List (List UInt8)) : (L.map fun l : List UInt8 => (⟨l.toArray⟩ : ByteArray)).map (·.data.toList) = L := by
  rw [List.map_map]
  conv => rhs; rw [← List.map_id L]
  exact List.map_congr_left fun l _ => by simp
theorem len_fd (n : Nat) (h : n ≤ 20) : fdT (⟨bLength.toArray⟩, ⟨(Lib.decDigits n).toArray⟩) = ⟨(bLength ++ 58 :: 32 :: Lib.decDigits n).toArray⟩ := by
  have h1 : tokB bLength = true := by decide
  have h2 := (dig_val n h).1
  have hf : fdB (⟨bLength.toArray⟩, ⟨(Lib.decDigits n).toArray⟩) = true := by simp [fdB, h1, h2]
  refine str_inj2 ?_
  rw [fdT_list hf]

set_option maxRecDepth 100000 in
set_option maxHeartbeats 3200000 in
theorem impl_head (h : Hd) (v : Value) (w : World) (hv : FRow w v h.fs) (hn : h.fs.length ≤ 6) (hok : FOk h.fs 281474976710656) (hh : hostB h.host.data.toList = true)
    (b1 : h.verb.size ≤ 2000000) (b2 : h.target.size ≤ 2000000) (b4 : h.body.size ≤ 20) (hcls : Cls w) (htab : Tab w) :
    Calls Tryz.prog 84 #[.agg #[.string h.verb, .string h.target, .string h.host, v, .string h.body]] w fun e w' => e = .returned (.string ⟨(headT h).toArray⟩) ∧ Below w.heap.size w w' := by
  obtain ⟨i0, hi, hz0, hz1, hz2⟩ := info_parts Tryz.info9
  have hHT : headT h = joinL (hedLines h) ++ [10] := rfl
  have hHL : hedLines h = (h.verb.data.toList ++ 32 :: h.target.data.toList) :: (bHost ++ 58 :: 32 :: h.host.data.toList) :: ((h.fs.map fun f => (fdT f).data.toList) ++ lenLines h.body.data.toList) := rfl
  have hfdh : fdB (⟨bHost.toArray⟩, h.host) = true := by
    have h1 := host_val hh
    have h2 : tokB bHost = true := by decide
    simp [fdB, h1, h2]
  have hfdT : (fdT (⟨bHost.toArray⟩, h.host)).data.toList = bHost ++ 58 :: 32 :: h.host.data.toList := by rw [fdT_list hfdh]
  have hhs : h.host.size ≤ 20 := by rw [size_len]; exact (host_len hh).2
  have hll : lenLines h.body.data.toList = if h.body.data.toList = [] then [] else [bLength ++ 58 :: 32 :: Lib.decDigits h.body.data.toList.length] := rfl
  have hfl : (headT h).length ≤ 8000000 := by have := head_len h (by omega); omega
  obtain ⟨verb, target, host, fs, body⟩ := h
  dsimp only at *
  generalize headT ⟨verb, target, host, fs, body⟩ = full at *
  generalize hedLines ⟨verb, target, host, fs, body⟩ = lines at *
  obtain ⟨a, c, rfl, h1, h2, h3⟩ := hv
  unfold maxLen at h2
  have H3 := Lib.hid h3; clear h3
  have HT := Lib.hid hHT; clear hHT
  have HL := Lib.hid hHL; clear hHL
  have HLL := Lib.hid hll; clear hll
  have HOk := Lib.hid hok; clear hok
  have HFh := Lib.hid hfdT; clear hfdT hfdh hh
  have HW := Lib.hid (And.intro hcls htab); clear hcls htab
  go_enter Tryz.func84, Tryz.ntmps84
  go_wp2_with fail
  obtain ⟨wA, hwA⟩ : ∃ wA, wA = w.alloc (.cells #[.string verb, .string target, .string host, .slice a fs.length c, .string body] 32) := ⟨_, rfl⟩
  rw [← hwA]
  have hsA : wA.heap.size = w.heap.size + 1 := by rw [hwA]; simp
  have hbA : Below w.heap.size w wA := by rw [hwA]; exact (Below.refl _ _).alloc (Nat.le_refl _) _
  have hcell : ∀ W, Below (w.heap.size + 1) wA W → W.cell? ⟨w.heap.size, 0, none⟩ = some (.string verb) ∧ W.cell? ⟨w.heap.size, 1, none⟩ = some (.string target) ∧ W.cell? ⟨w.heap.size, 2, none⟩ = some (.string host) ∧ W.cell? ⟨w.heap.size, 3, none⟩ = some (.slice a fs.length c) ∧ W.cell? ⟨w.heap.size, 4, none⟩ = some (.string body) := fun W hW => by
    have r := (hW.block w.heap.size (by omega)).trans (show wA.heap[w.heap.size]? = some (.cells #[.string verb, .string target, .string host, .slice a fs.length c, .string body] 32 (0, 0)) by rw [hwA]; exact heap_alloc_new w _)
    refine ⟨?_, ?_, ?_, ?_, ?_⟩ <;> simp [World.cell?, r]
  have HCell := Lib.hid hcell
  have HCl : Hid (∀ W, Below (w.heap.size + 1) wA W → Cls W ∧ Tab W) := Lib.hid fun W hW =>
    have := hbA.trans (hW.mono (Nat.le_succ _))
    ⟨HW.out.1.below this (Nat.le_refl _), HW.out.2.below this (Nat.le_refl _)⟩
  have HBA := Lib.hid hbA
  have hFT := fun W hW => impl_text ⟨bHost.toArray⟩ host W (by decide) (by unfold maxLen; omega) hW
  have hFT' : ∀ W, Cls W → Calls Tryz.prog 129 #[.agg #[.string ⟨#[104, 111, 115, 116]⟩, .string host]] W fun e w' => e = .returned (.string (fdT (⟨bHost.toArray⟩, host))) ∧ Below W.heap.size W w' := hFT
  have hFl := fdT_len (⟨bHost.toArray⟩, host)
  generalize fdT (⟨bHost.toArray⟩, host) = FH at *
  clear hcell hwA hbA hFT HW
  refine wp_region_last (by kernel_rfl) 11 (by kernel_rfl) (by kernel_rfl) (by kernel_rfl)
    (fun u => { tmps := #[.agg #[.string verb, .string target, .string host, .slice a fs.length c, .string body], .pointer (some ⟨w.heap.size, 0, none⟩), .string ⟨#[]⟩, undef, undef, undef, u 0, u 1, u 2, u 3, u 4, u 5, u 6, u 7, u 8, u 9, u 10, undef, undef, undef, undef, undef, undef, undef, undef, undef, undef, undef, undef, undef, undef, undef, undef, undef, undef, undef, undef, undef, undef, undef, undef, undef, undef, undef, undef, undef], defers := [] })
    (fun _ W => Below (w.heap.size + 1) wA W)
    (RAt [REq (.pointer (some ⟨w.heap.size, 0, none⟩)), REq (.string verb), REq (.string (verb ++ ⟨#[32]⟩)), REq (.pointer (some ⟨w.heap.size, 1, none⟩)), REq (.string target), REq (.string (verb ++ ⟨#[32]⟩ ++ target)), REq (.pointer (some ⟨w.heap.size, 2, none⟩)), REq (.string host), REq (.agg #[.string ⟨#[104, 111, 115, 116]⟩, .string host]), REq (.string FH), RTwo (w.heap.size + 1) (verb ++ ⟨#[32]⟩ ++ target) FH])
    (fun w w' => Below w.heap.size w w') (fun _ => undef) (Below.refl _ _).drew
    (fun i v w w' _ hR hle => steady_at (by exact ⟨steady_eq _, steady_eq _, steady_eq _, steady_eq _, steady_eq _, steady_eq _, steady_eq _, steady_eq _, steady_eq _, steady_eq _, steady_two _ _ _, trivial⟩) v w w' hR hle) ?_ ?_
  · intro i hi u w1 k hk hC hd
    obtain ⟨c0, c1, c2, _, _⟩ := HCell.out w1 hC
    have hsz := hC.size
    match i, hi with
    | 0, _ =>
      refine wpOp_step rfl (fun K hK => ?_)
      clear hd
      go_simp
      exact hK _ _ ⟨_, rfl, rfl, Below.refl _ _, hC⟩
    | 1, _ =>
      have e0 : u 0 = .pointer (some ⟨w.heap.size, 0, none⟩) := hd 0 (dep_of (by kernel_rfl))
      refine wpOp_step rfl (fun K hK => ?_)
      clear hd
      go_simp
      exact hK _ _ ⟨_, by simp [upd, e0], rfl, Below.refl _ _, hC⟩
    | 2, _ =>
      have e1 : u 1 = .string verb := hd 1 (dep_of (by kernel_rfl))
      have z1 : ¬ (9223372036854775807 < verb.size + (ByteArray.mk #[32]).size) := by have : (ByteArray.mk #[32]).size = 1 := rfl; omega
      have z2 : ¬ (9223372036854775807 < verb.size + 1) := by omega
      refine wpOp_step rfl (fun K hK => ?_)
      clear hd
      go_simp
      exact hK _ _ ⟨_, by simp [upd, e1], rfl, Below.refl _ _, hC⟩
    | 3, _ =>
      refine wpOp_step rfl (fun K hK => ?_)
      clear hd
      go_simp
      exact hK _ _ ⟨_, rfl, rfl, Below.refl _ _, hC⟩
    | 4, _ =>
      have e3 : u 3 = .pointer (some ⟨w.heap.size, 1, none⟩) := hd 3 (dep_of (by kernel_rfl))
      refine wpOp_step rfl (fun K hK => ?_)
      clear hd
      go_simp
      exact hK _ _ ⟨_, by simp [upd, e3], rfl, Below.refl _ _, hC⟩
    | 5, _ =>
      have e2 : u 2 = .string (verb ++ ⟨#[32]⟩) := hd 2 (dep_of (by kernel_rfl))
      have e4 : u 4 = .string target := hd 4 (dep_of (by kernel_rfl))
      have z1 : ¬ (9223372036854775807 < (verb ++ ⟨#[32]⟩).size + target.size) := by rw [ByteArray.size_append]; have : (ByteArray.mk #[32]).size = 1 := rfl; omega
      have z2 : ¬ (9223372036854775807 < verb.size + (ByteArray.mk #[32]).size + target.size) := by have : (ByteArray.mk #[32]).size = 1 := rfl; omega
      have z3 : ¬ (9223372036854775807 < verb.size + 1 + target.size) := by omega
      refine wpOp_step rfl (fun K hK => ?_)
      clear hd
      go_simp
      exact hK _ _ ⟨_, by simp [upd, e2, e4], rfl, Below.refl _ _, hC⟩
    | 6, _ =>
      refine wpOp_step rfl (fun K hK => ?_)
      clear hd
      go_simp
      exact hK _ _ ⟨_, rfl, rfl, Below.refl _ _, hC⟩
    | 7, _ =>
      have e6 : u 6 = .pointer (some ⟨w.heap.size, 2, none⟩) := hd 6 (dep_of (by kernel_rfl))
      refine wpOp_step rfl (fun K hK => ?_)
      clear hd
      go_simp
      exact hK _ _ ⟨_, by simp [upd, e6], rfl, Below.refl _ _, hC⟩
    | 8, _ =>
      have e7 : u 7 = .string host := hd 7 (dep_of (by kernel_rfl))
      refine wpOp_step rfl (fun K hK => ?_)
      clear hd
      go_simp
      exact hK _ _ ⟨_, by simp [upd, e7], rfl, Below.refl _ _, hC⟩
    | 9, _ =>
      have e8 : u 8 = .agg #[.string ⟨#[104, 111, 115, 116]⟩, .string host] := hd 8 (dep_of (by kernel_rfl))
      refine wpOp_step rfl (fun K hK => ?_)
      clear hd
      go_simp
      refine (hFT' _ (HCl.out _ hC).1).mono ?_
      rintro e w2 ⟨rfl, hb2⟩
      exact hK _ _ ⟨_, by simp [upd, e8], rfl, hb2, hC.trans (hb2.mono (by omega))⟩
    | 10, _ =>
      have e5 : u 5 = .string (verb ++ ⟨#[32]⟩ ++ target) := hd 5 (dep_of (by kernel_rfl))
      have e9 : u 9 = .string FH := hd 9 (dep_of (by kernel_rfl))
      refine wpOp_step rfl (fun K hK => ?_)
      clear hd
      go_simp
      exact hK _ _ ⟨_, by simp [upd, e5, e9], ⟨_, rfl, by omega, heap_alloc_new w1 _⟩, (Below.refl _ _).alloc (Nat.le_refl _) _, hC.alloc (by omega) _⟩
  · intro u w1 k hk hC hd
    obtain ⟨g, e10, hg, hcl⟩ : RTwo (w.heap.size + 1) (verb ++ (⟨#[32]⟩ : ByteArray) ++ target) FH (u 10) w1 := hd 10 (by decide)
    refine wpOp_step rfl (fun K hK => ?_)
    clear hd
    go_simp
    refine hK _ _ ?_
    clear hK K
    have hX : (verb ++ (⟨#[32]⟩ : ByteArray) ++ target) = ⟨(verb.data.toList ++ 32 :: target.data.toList).toArray⟩ := str_inj2 (by simp)
    have hFHl : FH = ⟨(bHost ++ 58 :: 32 :: host.data.toList).toArray⟩ := str_inj2 (by rw [HFh.out])
    have hown : w1.ownsRow (w.heap.size + 1) 9 1 (.slice (some ⟨g, 0, none⟩) 2 2) 2 ([verb.data.toList ++ 32 :: target.data.toList, bHost ++ 58 :: 32 :: host.data.toList].map strV) :=
      ⟨rfl, .inr ⟨g, 2, _, rfl, hg, hcl, Nat.le_refl _, by decide, rfl, by rw [hX, hFHl]; rfl⟩⟩
    generalize hL0 : [verb.data.toList ++ 32 :: target.data.toList, bHost ++ 58 :: 32 :: host.data.toList] = L0 at *
    have hL0l : L0.length = 2 := by rw [← hL0]; rfl
    have HL0 := Lib.hid hL0
    have hLs : lines = L0 ++ ((fs.map fun f => (fdT f).data.toList) ++ lenLines body.data.toList) := by rw [HL.out, ← hL0]; rfl
    have HLs := Lib.hid hLs
    obtain ⟨_, _, _, c3, c4⟩ := HCell.out w1 hC
    clear hcl hX hFHl hL0 hLs e10 hk HL
    go_wp2_with fail
    go_loopw [3, 20] (fun x i wr => ∃ k : Nat, k ≤ fs.length ∧ i = .int .i64 k ∧ wr.ownsRow (w.heap.size + 1) 9 1 x (2 + k) ((L0 ++ (fs.take k).map fun f => (fdT f).data.toList).map strV) ∧ Below (w.heap.size + 1) wA wr) (fun _ i _ => fs.length - (intOf i).toNat)
    case atStart => exact ⟨0, Nat.zero_le _, rfl, by simpa using hown, hC⟩
    case round =>
      obtain ⟨k, hk, rfl, hown, hbr⟩ := hrel
      have hwr : w.heap.size + 1 ≤ wr.heap.size := by have := hbr.size; omega
      have hbw := HBA.out.trans (hbr.mono (Nat.le_succ _))
      by_cases hlt : k < fs.length
      · obtain ⟨b1, o1, rfl, hb1, c1, c2⟩ := H3.out k fs[k] (List.getElem?_eq_getElem hlt)
        have k1 := (hbw.cell (p := ⟨b1, o1 + k * 2, none⟩) hb1).trans c1
        have k2 := (hbw.cell (p := ⟨b1, o1 + k * 2 + 1, none⟩) hb1).trans c2
        have hok := HOk.out fs[k] (List.getElem_mem hlt)
        have hsn : fs.take (k + 1) = fs.take k ++ [fs[k]] := by rw [List.take_add_one, List.getElem?_eq_getElem hlt]; rfl
        have HSn := Lib.hid hsn; clear hsn
        clear c1 c2
        generalize fs[k] = f at *
        obtain ⟨nm, vl⟩ := f
        dsimp only at k1 k2 hok
        have hT := fun W hW => impl_text nm vl W (by unfold maxLen; omega) (by unfold maxLen; omega) hW
        have hTl := fdT_len (nm, vl)
        generalize hF : fdT (nm, vl) = F at *
        have HF := Lib.hid hF; clear hF
        have hcl := (HCl.out _ (hbr.alloc hwr (.cells #[.string nm, .string vl] 88))).1
        clear hFT'
        go_wp2_with fail
        refine (hT _ hcl).mono ?_
        rintro e w2 ⟨rfl, hb2⟩
        have hb2' : Below wr.heap.size wr w2 := ((Below.refl _ _).alloc (Nat.le_refl _) _).trans (hb2.mono (by simp))
        have hown2 := own_below hown hb2'
        have hbr2 := hbr.trans (hb2'.mono hwr)
        have hsz2 := hb2'.size
        clear hown hbr hb2 hb2' hT hcl hbw
        go_wp2_with (at_builtin; go_must (refine wpList_append1 w2 rfl _ _ 64 rfl (w.heap.size + 1) 9 i0 _ 16 Tryz.underlying64 hi hz0 hz1 hz2 rfl _ _ _ (by rfl) hown2 _ rfl _ (by rfl) (by unfold maxLen; omega) (by omega) (by omega) ?_); intro v' w4 ho3 hb3 hlt3)
        go_roundw
        case rel =>
          refine ⟨k + 1, by omega, by go_num, ?_, hbr2.trans hb3⟩
          have : ([(nm, vl)].map fun f => (fdT f).data.toList).map strV = [.string F] := by
            show [strV (fdT (nm, vl)).data.toList] = _
            rw [HF.out]
          rw [HSn.out, List.map_append (l₁ := fs.take k), ← List.append_assoc, List.map_append (l₁ := L0 ++ _), this]; exact ho3
        case measure => simp [intOf]; omega
      · have hkn : k = fs.length := by omega
        subst hkn
        rw [List.take_length] at hown
        obtain ⟨_, _, _, d3, d4⟩ := HCell.out wr hbr
        by_cases hb : body.data.toList = []
        · have he : body.toList.isEmpty = true := by rw [Lib.toList_data, hb]; rfl
          have hl := HLL.out
          rw [if_pos hb] at hl
          have hfull : full = joinL (L0 ++ fs.map fun f => (fdT f).data.toList) ++ [10] := by rw [HT.out, HLs.out, hl, List.append_nil]
          have HFull := Lib.hid hfull
          have HL2 := Lib.hid hl
          clear hb hl hfull hFT'
          generalize (L0 ++ fs.map fun f => (fdT f).data.toList) = L1 at *
          go_wp2_with (at_builtin; go_must (refine wpList_append_lies _ rfl _ _ 64 (by rfl) (w.heap.size + 1) 9 i0 _ 1 16 Tryz.underlying64 hi hz0 hz1 hz2 (by rfl) (by decide) _ (2 + fs.length) _ (by rfl) (hown.alloc _) ⟨wr.heap.size, 0, none⟩ 2 2 [.string ⟨#[]⟩, .string ⟨#[]⟩] (by rfl) (by rfl) (pair_new wr ⟨#[]⟩ ⟨#[]⟩ _) (by intro x hx; simp at hx; rcases hx with rfl | rfl <;> rfl) (by omega) (by unfold maxLen; omega) (by omega) (by simp; omega) (wr.heap.size + 1) (by simp) ?_); intro g5 cap5 w5 ho5 hg5 hat5 hlt5)
          have ho6 : w5.ownsRow (w.heap.size + 1) 9 1 (.slice (some ⟨g5, 0, none⟩) ((2 + fs.length) + 2) cap5) ((2 + fs.length) + 2) ((L1 ++ [[], []]).map strV) := by rw [List.map_append]; exact ho5
          obtain ⟨hn6, g6, cap6, he6, hc6, hlt6, hcells6⟩ := own_texts ho6 (by omega)
          injection he6 with e61 _ e63
          injection e61 with e64
          injection e64 with e65
          subst e65; subst e63
          have hmt := map_texts (L1 ++ [[], []])
          have hjl : Lib.join (L1 ++ [[], []]) [10] = full := by rw [join_two, HFull.out]
          have hml : ((L1 ++ [[], []]).map fun l : List UInt8 => (⟨l.toArray⟩ : ByteArray)).length = (2 + fs.length) + 2 := by rw [List.length_map, ← hn6]
          generalize ((L1 ++ [[], []]).map fun l : List UInt8 => (⟨l.toArray⟩ : ByteArray)) = xs at *
          have hJ := Tryz.strings_Join g5 0 cap5 xs ⟨#[10]⟩ w5 hcells6 hlt6 (by omega) (by omega) (by rw [hmt]; show (Lib.join (L1 ++ [[], []]) [10]).length ≤ _; rw [hjl]; omega)
          rw [hmt] at hJ
          have hJ' : Calls Tryz.prog 130 #[.slice (some ⟨g5, 0, none⟩) ((2 + fs.length) + 2) cap5, .string ⟨#[10]⟩] w5 fun e w' => e = .returned (.string ⟨full.toArray⟩) ∧ Below w5.heap.size w5 w' := by
            rw [← hml, ← hjl]; exact hJ
          have hbel : Below (w.heap.size + 1) wA w5 := (hbr.alloc (by omega) _).grown hg5 (by simp; omega) (fun r hr => (hown.lt r hr).1)
          have HBel := Lib.hid (HBA.out.trans (hbel.mono (Nat.le_succ _)))
          clear hJ hmt hjl hml hn6 ho5 ho6 hcells6 hg5 hat5 hbel hown hbr hbw
          go_wp2_with fail
          refine hJ'.mono ?_
          rintro e w6 ⟨rfl, hb6⟩
          go_wp2
          go_ret
          exact ⟨rfl, HBel.out.trans (hb6.mono HBel.out.size)⟩
        · have he : body.toList.isEmpty = false := by rw [Lib.toList_data]; simpa using hb
          have hl := HLL.out
          rw [if_neg hb] at hl
          have hbs : body.data.toList.length = body.size := (size_len body).symm
          rw [hbs] at hl
          have hP := fun W hW => impl_numtext (body.size : Int) W (by omega) (by omega) hW
          have hnt : numT (body.size : Int) = Lib.decDigits body.size := by unfold numT; rw [if_pos (by omega)]; simp
          rw [hnt] at hP
          unfold strV at hP
          have hdl := dec_len_le 7 body.size (by omega)
          have hFL := fun W hW => impl_text ⟨bLength.toArray⟩ ⟨(Lib.decDigits body.size).toArray⟩ W (by decide) (by unfold maxLen; rw [size_len]; simp only; omega) hW
          rw [len_fd _ b4] at hFL
          have hFL' : ∀ W, Cls W → Calls Tryz.prog 129 #[.agg #[.string ⟨#[108, 101, 110, 103, 116, 104]⟩, .string ⟨(Lib.decDigits body.size).toArray⟩]] W fun e w' => e = .returned (.string ⟨(bLength ++ 58 :: 32 :: Lib.decDigits body.size).toArray⟩) ∧ Below W.heap.size W w' := hFL
          generalize (⟨(Lib.decDigits body.size).toArray⟩ : ByteArray) = D at *
          generalize hM : (bLength ++ 58 :: 32 :: Lib.decDigits body.size) = M at *
          have hfull : full = joinL ((L0 ++ fs.map fun f => (fdT f).data.toList) ++ [M]) ++ [10] := by rw [HT.out, HLs.out, hl, List.append_assoc]
          have HFull := Lib.hid hfull
          have HCT := Lib.hid (HCl.out _ hbr)
          clear hb hl hfull hFT' hFL hnt hM hdl
          generalize (L0 ++ fs.map fun f => (fdT f).data.toList) = L1 at *
          go_wp2_with fail
          refine (hP _ HCT.out.2).mono ?_
          rintro e w2 ⟨rfl, hb2⟩
          have hcl2 := HCT.out.1.below hb2 (Nat.le_refl _)
          go_wp2_with fail
          refine (hFL' _ hcl2).mono ?_
          rintro e w3 ⟨rfl, hb3⟩
          have hb23 := hb2.trans (hb3.mono hb2.size)
          have hown2 := own_below hown hb23
          have hbr2 := hbr.trans (hb23.mono hwr)
          have hsz2 := hb23.size
          clear hown hbr hb2 hb3 hb23 hP hFL' hcl2 hbw
          go_wp2_with (at_builtin; first | (refine wpList_append1 w3 rfl _ _ 64 rfl (w.heap.size + 1) 9 i0 _ 16 Tryz.underlying64 hi hz0 hz1 hz2 rfl _ _ _ (by rfl) hown2 _ rfl _ (by rfl) (by unfold maxLen; omega) (by omega) (by omega) ?_; intro v' w4 ho3 hb4 hlt3) | go_must (refine wpList_append_lies _ rfl _ _ 64 (by rfl) (w.heap.size + 1) 9 i0 _ 1 16 Tryz.underlying64 hi hz0 hz1 hz2 (by rfl) (by decide) _ (2 + fs.length + 1) _ (by rfl) (ho3.alloc _) ⟨w4.heap.size, 0, none⟩ 2 2 [.string ⟨#[]⟩, .string ⟨#[]⟩] (by rfl) (by rfl) (pair_new w4 ⟨#[]⟩ ⟨#[]⟩ _) (by intro x hx; simp at hx; rcases hx with rfl | rfl <;> rfl) (by omega) (by unfold maxLen; omega) (by omega) (by simp; omega) (w4.heap.size + 1) (by simp) ?_; intro g5 cap5 w5 ho5 hg5 hat5 hlt5))
          have hown4 : w4.ownsRow (w.heap.size + 1) 9 1 v' (2 + fs.length + 1) ((L1 ++ [M]).map strV) := by rw [List.map_append]; exact ho3
          have hbr4 := hbr2.trans hb4
          have ho5' : w5.ownsRow (w.heap.size + 1) 9 1 (.slice (some ⟨g5, 0, none⟩) (2 + fs.length + 1 + 2) cap5) (2 + fs.length + 1 + 2) ((L1 ++ [M]).map strV ++ [.string ⟨#[]⟩, .string ⟨#[]⟩]) := by rw [List.map_append]; exact ho5
          clear ho3 hown2 hbr2 hb4 ho5
          have ho5 := ho5'
          clear ho5'
          generalize (L1 ++ [M]) = L2 at *
          have ho6 : w5.ownsRow (w.heap.size + 1) 9 1 (.slice (some ⟨g5, 0, none⟩) ((2 + fs.length + 1) + 2) cap5) ((2 + fs.length + 1) + 2) ((L2 ++ [[], []]).map strV) := by rw [List.map_append]; exact ho5
          obtain ⟨hn6, g6, cap6, he6, hc6, hlt6, hcells6⟩ := own_texts ho6 (by omega)
          injection he6 with e61 _ e63
          injection e61 with e64
          injection e64 with e65
          subst e65; subst e63
          have hmt := map_texts (L2 ++ [[], []])
          have hjl : Lib.join (L2 ++ [[], []]) [10] = full := by rw [join_two, HFull.out]
          have hml : ((L2 ++ [[], []]).map fun l : List UInt8 => (⟨l.toArray⟩ : ByteArray)).length = (2 + fs.length + 1) + 2 := by rw [List.length_map, ← hn6]
          generalize ((L2 ++ [[], []]).map fun l : List UInt8 => (⟨l.toArray⟩ : ByteArray)) = xs at *
          have hJ := Tryz.strings_Join g5 0 cap5 xs ⟨#[10]⟩ w5 hcells6 hlt6 (by omega) (by omega) (by rw [hmt]; show (Lib.join (L2 ++ [[], []]) [10]).length ≤ _; rw [hjl]; omega)
          rw [hmt] at hJ
          have hJ' : Calls Tryz.prog 130 #[.slice (some ⟨g5, 0, none⟩) ((2 + fs.length + 1) + 2) cap5, .string ⟨#[10]⟩] w5 fun e w' => e = .returned (.string ⟨full.toArray⟩) ∧ Below w5.heap.size w5 w' := by
            rw [← hml, ← hjl]; exact hJ
          have hbel : Below (w.heap.size + 1) wA w5 := (hbr4.alloc (by omega) _).grown hg5 (by simp; omega) (fun r hr => (hown4.lt r hr).1)
          have HBel := Lib.hid (HBA.out.trans (hbel.mono (Nat.le_succ _)))
          clear hJ hmt hjl hml hn6 ho5 ho6 hcells6 hg5 hat5 hbel hown4 hbr4
          go_wp2_with fail
          refine hJ'.mono ?_
          rintro e w6 ⟨rfl, hb6⟩
          go_wp2
          go_ret
          exact ⟨rfl, HBel.out.trans (hb6.mono HBel.out.size)⟩
end Go.Proofs.YtbhnjnoblkfckabGreatDoor

-- from XHok
/- Walks: whether a host is in its plainest form, by the program. -/
namespace Go.Proofs.YtbhnjnoblkfckabGreatDoor
open Go.RowKit

theorem host_ps (t : ByteArray) : ∃ (T : ByteArray) (ok : Bool), hostR t.data.toList = (T, ok) ∧ ((ok = true ∧ T = t) ↔ hostB t.data.toList = true) := by
  obtain ⟨T, ok, hr⟩ : ∃ T ok, hostR t.data.toList = (T, ok) := ⟨_, _, rfl⟩
  refine ⟨T, ok, hr, ?_⟩
  constructor
  · rintro ⟨rfl, rfl⟩; exact (hostR_yes hr).1
  · intro h
    rw [host_again h] at hr
    obtain ⟨h1, h2⟩ := Prod.mk.inj hr
    exact ⟨h2.symm, by rw [← h1]⟩
theorem strh_same (a : ByteArray) : (a.toList == a.toList) = true := by simp
theorem strh_ne {a b : ByteArray} (h : a ≠ b) : (a.toList == b.toList) = false := by
  rw [Lib.toList_data, Lib.toList_data]
  simp only [beq_eq_false_iff_ne, ne_eq]
  intro e
  exact h (ByteArray.ext (Array.toList_inj.1 e))

set_option maxHeartbeats 800000 in
theorem impl_hok (t : ByteArray) (w : World) (ht : t.size ≤ 1048576) (hcls : Cls w) :
    Calls Tryz.prog 80 #[.string t] w fun e w' => e = .returned (.bool (hostB t.data.toList)) ∧ Below w.heap.size w w' := by
  have hU := fun W hW => impl_host t W (by omega) hW
  obtain ⟨T, okT, hT, hTT⟩ := host_ps t
  rw [hT] at hU
  dsimp only at hU
  have hdef : hostB t.data.toList = (okT && decide (T = t)) := by rw [Bool.eq_iff_iff]; simpa using hTT.symm
  rw [hdef]
  clear hdef hTT hT
  go_enter Tryz.func80, Tryz.ntmps80
  go_wp2_with fail
  refine (hU _ hcls).mono ?_
  rintro e w1 ⟨rfl, hb1⟩
  have HB := Lib.hid hb1
  clear hb1 hU hcls
  cases okT
  · go_wp2
    go_ret
    exact ⟨rfl, HB.out⟩
  · by_cases e1 : T = t
    · subst e1
      have se := strh_same T
      go_wp2
      go_ret
      exact ⟨by simp, HB.out⟩
    · have se := strh_ne e1
      have E := Lib.hid e1
      clear e1
      go_wp2
      go_ret
      exact ⟨by simp [E.out], HB.out⟩
end Go.Proofs.YtbhnjnoblkfckabGreatDoor

-- from XHedG
/- Walks: a request's fields, read, by the specification. -/
namespace Go.Proofs.YtbhnjnoblkfckabGreatDoor
open Go.RowKit

/-- A slice that reads as a list of lines. -/
def SRow (w : World) (v : Value) (ls : List (List UInt8)) : Prop :=
  ∃ a c, v = .slice a ls.length c ∧ ls.length ≤ c ∧ c ≤ maxLen ∧ ∀ j l, ls[j]? = some l → ∃ b o, a = some ⟨b, o, none⟩ ∧ b < w.heap.size ∧ w.cell? ⟨b, o + j, none⟩ = some (.string ⟨l.toArray⟩)
theorem SRow.below {w w' : World} {v : Value} {ls : List (List UInt8)} (h : SRow w v ls) {B : Nat} (hB : w.heap.size ≤ B) (hb : Below B w w') : SRow w' v ls := by
  obtain ⟨a, c, rfl, h1, h2, h3⟩ := h
  refine ⟨a, c, rfl, h1, h2, fun j l hj => ?_⟩
  obtain ⟨b, o, rfl, hlt, c1⟩ := h3 j l hj
  exact ⟨b, o, rfl, Nat.lt_of_lt_of_le hlt hb.size, (hb.cell (p := ⟨b, o + j, none⟩) (Nat.lt_of_lt_of_le hlt hB)).trans c1⟩

theorem rdR_false {l : List UInt8} (h : rdB l = false) : rdR l = ((⟨#[]⟩, ⟨#[]⟩), false) := by simp [rdR, h]
theorem rdR_true {l : List UInt8} (h : rdB l = true) : rdR l = (rdF l, true) := by simp [rdR, h]

end Go.Proofs.YtbhnjnoblkfckabGreatDoor

-- from XHedZ
/- Walks: how long a body is, by the specification. -/
namespace Go.Proofs.YtbhnjnoblkfckabGreatDoor
open Go.RowKit

def sizeV (o : Option Nat) : Value := .int .i64 (match o with | none => -1 | some n => (n : Int))

end Go.Proofs.YtbhnjnoblkfckabGreatDoor

-- from XHedX
/- Walks: a request's target and first line, by the specification. -/
namespace Go.Proofs.YtbhnjnoblkfckabGreatDoor
open Go.RowKit

theorem cut_b (s : ByteArray) (c : UInt8) (W : World) (hs : s.size ≤ maxLen) :
    Calls Tryz.prog 92 #[.string s, .int .u8 c.toNat] W fun e w' => e = .returned (.tuple #[.string ⟨(cutL s.data.toList c).1.toArray⟩, .string ⟨(cutL s.data.toList c).2.1.toArray⟩, .bool (cutL s.data.toList c).2.2]) ∧ Below W.heap.size W w' :=
  (spec_cut s c W hs).mono fun _ _ ⟨he, _, hn⟩ => ⟨he, hn ▸ below_drewN (Below.refl _ _)⟩

def optV (o : Option (List UInt8 × List UInt8)) (e : Ending) : Prop := ∃ p n : ByteArray, e = .returned (.tuple #[.string p, .string n, .bool o.isSome]) ∧ ∀ q, o = some q → p = ⟨q.1.toArray⟩ ∧ n = ⟨q.2.toArray⟩

end Go.Proofs.YtbhnjnoblkfckabGreatDoor

-- from XHedS
/- A request's five cells, as a result's variable. -/
namespace Go.Proofs.YtbhnjnoblkfckabGreatDoor
open Go.RowKit

theorem five_facts {w' : World} {g : Nat} {x0 x1 x2 x3 x4 : Value} {T : TypeId} (h : w'.heap[g]? = some (.cells #[x0, x1, x2, x3, x4] T (0, 0))) :
    w'.cell? ⟨g, 0, none⟩ = some x0 ∧ w'.cell? ⟨g, 1, none⟩ = some x1 ∧ w'.cell? ⟨g, 2, none⟩ = some x2 ∧ w'.cell? ⟨g, 3, none⟩ = some x3 ∧ w'.cell? ⟨g, 4, none⟩ = some x4 ∧
    w'.frozen? ⟨g, 0, none⟩ = false ∧ w'.frozen? ⟨g, 1, none⟩ = false ∧ w'.frozen? ⟨g, 2, none⟩ = false ∧ w'.frozen? ⟨g, 3, none⟩ = false ∧ w'.frozen? ⟨g, 4, none⟩ = false := by
  refine ⟨?_, ?_, ?_, ?_, ?_, ?_, ?_, ?_, ?_, ?_⟩ <;> simp [World.cell?, World.frozen?, h]
def set5 (w : World) (g : Nat) (a b c d e : Value) : World := ((((w.setCell ⟨g, 0, none⟩ a).setCell ⟨g, 1, none⟩ b).setCell ⟨g, 2, none⟩ c).setCell ⟨g, 3, none⟩ d).setCell ⟨g, 4, none⟩ e
theorem five_set {w' : World} {g : Nat} {x0 x1 x2 x3 x4 : Value} {T : TypeId} (h : w'.heap[g]? = some (.cells #[x0, x1, x2, x3, x4] T (0, 0))) (a b c d e : Value) :
    (set5 w' g a b c d e).heap[g]? = some (.cells #[a, b, c, d, e] T (0, 0)) := by
  have h1 := heap_setCell_same w' g 0 _ _ a h
  have h2 := heap_setCell_same _ g 1 _ _ b h1
  have h3 := heap_setCell_same _ g 2 _ _ c h2
  have h4 := heap_setCell_same _ g 3 _ _ d h3
  have h5 := heap_setCell_same _ g 4 _ _ e h4
  unfold set5
  rw [h5]; rfl
theorem below_setk {w w3 : World} {b k : Nat} {x : Value} (h : Below b w w3) : Below b w (w3.setCell ⟨b, k, none⟩ x) :=
  ⟨h.os, h.tape, h.output, by simpa using h.size, fun j hj => (heap_setCell_other w3 ⟨b, k, none⟩ j _ (by simp; omega)).trans (h.block j hj)⟩
theorem below_set5 {w w3 : World} {g : Nat} {a b c d e : Value} (h : Below g w w3) : Below g w (set5 w3 g a b c d e) := below_setk (below_setk (below_setk (below_setk (below_setk h))))
theorem load5 {w : World} {g : Nat} {a b c d e : Value} {T : TypeId} (h : w.heap[g]? = some (.cells #[a, b, c, d, e] T (0, 0))) :
    (loadVar 32 ⟨g, 0, none⟩).run Tryz.prog w = .ok (.agg #[a, b, c, d, e]) w := by
  obtain ⟨t0, t1, t2, t3, t4, _⟩ := five_facts h
  exact load_hed w g _ _ _ _ _ t0 t1 t2 t3 t4
end Go.Proofs.YtbhnjnoblkfckabGreatDoor


import Derived.Test.YtbhnjnoblkfckabGreatDoorGA08
import Derived.Test.YtbhnjnoblkfckabGreatDoorGA03
import Derived.Shelf.Strconv.ErrVarAll
import Derived.Lib.Join
import Derived.Test.YtbhnjnoblkfckabGreatDoorGA02
-- from XRegR
/- What the operations of a drawing region leave: literals, numbers, texts, variables; each stays while the reader goes on. -/
namespace Go.Proofs.YtbhnjnoblkfckabGreatDoor
open Go.RowKit

/-- What stays while the reader at block g goes on and new blocks come. -/
def Stay (g : Nat) (R : Value → World → Prop) : Prop := ∀ v w w', R v w → w.grownBy w' (some g) → R v w'
def REq (x : Value) : Value → World → Prop := fun v _ => v = x
def RLit (g n : Nat) (cs : Array Value) (T : TypeId) : Value → World → Prop := fun v w => ∃ b, v = .slice (some ⟨b, 0, none⟩) n n ∧ b ≠ g ∧ w.heap[b]? = some (.cells cs T (0, 0))
def RNum (n : Nat) : Value → World → Prop := fun v _ => ∃ r : Nat, v = .int .i64 (r : Int) ∧ r < n
def RCell (g K : Nat) : Value → World → Prop := fun v w => ∃ b r s, v = .pointer (some ⟨b, r, none⟩) ∧ b ≠ g ∧ w.cell? ⟨b, r, none⟩ = some (.string s) ∧ s.size ≤ K
def RStr (K : Nat) : Value → World → Prop := fun v _ => ∃ s : ByteArray, v = .string s ∧ s.size ≤ K
def RVar (g B : Nat) (x y : Value) (T : TypeId) : Value → World → Prop := fun v w => ∃ b, v = .pointer (some ⟨b, 0, none⟩) ∧ g < b ∧ B ≤ b ∧ w.heap[b]? = some (.cells #[x, y] T (0, 0))
def RPair (K : Nat) : Value → World → Prop := fun v _ => ∃ s t : ByteArray, v = .agg #[.string s, .string t] ∧ s.size ≤ K ∧ t.size ≤ K

theorem stay_eq (g : Nat) (x : Value) : Stay g (REq x) := fun _ _ _ h _ => h
theorem stay_num (g n : Nat) : Stay g (RNum n) := fun _ _ _ h _ => h
theorem stay_str (g K : Nat) : Stay g (RStr K) := fun _ _ _ h _ => h
theorem stay_pair (g K : Nat) : Stay g (RPair K) := fun _ _ _ h _ => h
theorem block_keep {w w' : World} {g b : Nat} {o : Obj} (hb : b ≠ g) (h : w.heap[b]? = some o) (hg : w.grownBy w' (some g)) : w'.heap[b]? = some o :=
  (hg.block b (Array.getElem?_eq_some_iff.1 h).1 (fun e => hb (by injection e))).trans h
theorem stay_lit (g n : Nat) (cs : Array Value) (T : TypeId) : Stay g (RLit g n cs T) := fun _ _ _ ⟨b, h1, h2, h3⟩ hg => ⟨b, h1, h2, block_keep h2 h3 hg⟩
theorem stay_cell (g K : Nat) : Stay g (RCell g K) := fun _ _ _ ⟨b, r, s, h1, h2, h3, h4⟩ hg => ⟨b, r, s, h1, h2, hg.cell h3 (fun e => h2 (by injection e)), h4⟩
theorem stay_var (g B : Nat) (x y : Value) (T : TypeId) : Stay g (RVar g B x y T) := fun _ _ _ ⟨b, h1, h2, h3, h4⟩ hg => ⟨b, h1, h2, h3, block_keep (by omega) h4 hg⟩

def RAt (Rs : List (Value → World → Prop)) (i : Nat) : Value → World → Prop := Rs.getD i (fun _ _ => True)
def StayAll (g : Nat) : List (Value → World → Prop) → Prop
  | [] => True
  | r :: rs => Stay g r ∧ StayAll g rs
theorem stay_at {g : Nat} : ∀ {Rs : List (Value → World → Prop)} {i : Nat}, StayAll g Rs → Stay g (RAt Rs i)
  | [], i, _ => fun _ _ _ _ _ => by simp [RAt]
  | r :: rs, 0, h => by simpa [RAt] using h.1
  | r :: rs, i + 1, h => by simpa [RAt] using stay_at (Rs := rs) (i := i) h.2


/-- A literal's cell at a place. -/
theorem lit_at {w : World} {b r K : Nat} {cs : Array Value} {T : TypeId} (h : w.heap[b]? = some (.cells cs T (0, 0))) (hok : strsOk cs K = true) (hr : r < cs.size) : ∃ s : ByteArray, w.cell? ⟨b, r, none⟩ = some (.string s) ∧ s.size ≤ K := by
  obtain ⟨s, h1, h2⟩ := strs_at hok hr
  exact ⟨s, by rw [cell_of_row w b r cs T (0, 0) h, h1], h2⟩

/-- The world of a region: the reader has gone on. -/
def CAtK (w0 : World) (B g m c : Nat) : Nat → World → Prop := fun k w => Drawn w0 w B g (m + c * k) ∧ g < w0.heap.size
theorem catk_same {w0 w : World} {B g m c k : Nat} (h : CAtK w0 B g m c k w) : CAtK w0 B g m c (k + 1) w := ⟨h.1.mono (by rw [Nat.mul_add]; omega), h.2⟩
theorem catk_alloc {w0 w : World} {B g m c k : Nat} (h : CAtK w0 B g m c k w) (o : Obj) : CAtK w0 B g m c (k + 1) (w.alloc o) := ⟨(h.1.alloc o).mono (by rw [Nat.mul_add]; omega), h.2⟩
theorem catk_drawn {w0 w w' : World} {B g m c k m' : Nat} (h : CAtK w0 B g m c k w) (hd : Drawn w w' B g m') (hm : m' ≤ m + c * (k + 1)) : CAtK w0 B g m c (k + 1) w' := ⟨(h.1.trans hd).mono hm, h.2⟩
theorem catk_lt {w0 w : World} {B g m c k : Nat} (h : CAtK w0 B g m c k w) : g < w.heap.size := h.1.1.lt
end Go.Proofs.YtbhnjnoblkfckabGreatDoor

-- from XNumR
/- Walks: reading a number's text. -/
namespace Go.Proofs.YtbhnjnoblkfckabGreatDoor
open Go.RowKit

theorem numR_no {l : List UInt8} (h : (numR l).2 = false) : numR l = (0, false) := by
  unfold numR at h ⊢
  split
  · rename_i hc; rw [if_pos hc] at h; cases h
  · rfl
theorem numR_ok {l : List UInt8} {v : Int} (ha : Lib.atoiAll l = .ok v) (h : numT v = l) : numR l = (v.toNat, true) ∧ 0 ≤ v := by
  unfold numT at h
  by_cases hc : 0 ≤ v ∧ v ≤ 999999
  · rw [if_pos hc] at h
    rw [← h, numR_dec _ (by omega)]
    exact ⟨rfl, hc.1⟩
  · rw [if_neg hc] at h
    subst h
    cases ha
theorem numR_bad {l : List UInt8} (ha : ∀ v : Nat, v ≤ 999999 → Lib.decDigits v ≠ l) : numR l = (0, false) := by
  apply numR_no
  cases hb : (numR l).2
  · rfl
  · have := numR_yes hb
    exact absurd this.2 (ha _ this.1)

/-- What the reading of numbers asks of the library's variables. -/
def Errs (w : World) : Prop := ∃ tp p tp2 p2, w.var? Tryz.prog "strconv.ErrSyntax" = some #[.iface tp p] ∧ w.var? Tryz.prog "strconv.ErrRange" = some #[.iface tp2 p2]
theorem gErrS : Tryz.prog.globalNamed "strconv.ErrSyntax" = some 3 := by kernel_rfl
theorem gErrR : Tryz.prog.globalNamed "strconv.ErrRange" = some 4 := by kernel_rfl
theorem Errs.below {w w' : World} {B : Nat} (h : Errs w) (hb : Below B w w') (hB : w.heap.size ≤ B) : Errs w' := by
  obtain ⟨a, b, c, d, h1, h2⟩ := h
  exact ⟨a, b, c, d, Joins.var_stays gErrS h1 hb hB, Joins.var_stays gErrR h2 hb hB⟩

theorem atoi_below {w w' : World} (h : w' = w ∨ ∃ t, w' = Lib.bytesWorld w 5 t) : Below w.heap.size w w' := by
  rcases h with rfl | ⟨t, rfl⟩
  · exact Below.refl _ _
  · exact Lib.bytesWorld_below _ _ _

set_option maxHeartbeats 800000 in
theorem impl_numread (s : ByteArray) (w : World) (hs : s.size ≤ 281474976710656) (ht : Tab w) (he : Errs w) :
    Calls Tryz.prog 60 #[.string s] w fun e w' => e = .returned (.tuple #[.int .i64 ((numR s.data.toList).1 : Int), .bool (numR s.data.toList).2]) ∧ Below w.heap.size w w' := by
  obtain ⟨tp, p, tp2, p2, hv1, hv2⟩ := he
  rcases h : Lib.atoiAll s.data.toList with v | _ | _
  · have hbd := Lib.atoiAll_bounds h
    have hok := Tryz.strconv_Atoi_ok s (by omega) v h w
    by_cases hq : numT v = s.data.toList
    · obtain ⟨hr, hv0⟩ := numR_ok h hq
      rw [hr]
      have hbs : (⟨(numT v).toArray⟩ : ByteArray) = s := by rw [hq]
      have HB := Lib.hid hbs; have HOK := Lib.hid hok; have HT := Lib.hid ht
      obtain ⟨k, rfl⟩ := Int.eq_ofNat_of_zero_le hv0
      rw [Int.toNat_natCast]
      clear hbs hq hr h hok hv1 hv2 ht
      go_enter Tryz.func60, Tryz.ntmps60
      go_wp2_with fail
      refine HOK.out.mono ?_
      rintro e w1 ⟨rfl, hw⟩
      have hb1 := atoi_below hw
      clear hw
      have ht1 := HT.out.below hb1 (Nat.le_refl _)
      go_wp2_with fail
      refine (impl_numtext _ _ (by omega) (by omega) ht1).mono ?_
      rintro e w2 ⟨rfl, hb2⟩
      simp only [strV]
      rw [HB.out]
      go_wp2
      go_ret2
      exact ⟨rfl, hb1.trans (hb2.mono hb1.size)⟩
    · have hr : numR s.data.toList = (0, false) := numR_bad (fun u hu e => by
        have := atoi_dec u hu
        rw [e, h] at this
        injection this with this
        apply hq
        unfold numT
        rw [this, if_pos (by omega), Int.toNat_natCast, e])
      rw [hr]
      have hbs : (numT v == s.toList) = false := beq_eq_false_iff_ne.2 (by rw [Lib.toList_data]; exact hq)
      have HOK := Lib.hid hok; have HT := Lib.hid ht
      clear hq hr h hok hv1 hv2 ht
      go_enter Tryz.func60, Tryz.ntmps60
      go_wp2_with fail
      refine HOK.out.mono ?_
      rintro e w1 ⟨rfl, hw⟩
      have hb1 := atoi_below hw
      clear hw
      have ht1 := HT.out.below hb1 (Nat.le_refl _)
      go_wp2_with fail
      refine (impl_numtext _ _ (by omega) (by omega) ht1).mono ?_
      rintro e w2 ⟨rfl, hb2⟩
      go_wp2
      go_ret2
      exact ⟨rfl, hb1.trans (hb2.mono hb1.size)⟩
  · have hok := Any.strconv_Atoi_syntax_var Tryz.laysC172 s hs h tp p w hv1
    have hr : numR s.data.toList = (0, false) := numR_bad (fun u hu e => by
      have := atoi_dec u hu
      rw [e, h] at this; cases this)
    rw [hr]
    have HOK := Lib.hid hok
    clear hr h hok hv1 hv2 ht
    go_enter Tryz.func60, Tryz.ntmps60
    go_wp2_with fail
    refine HOK.out.mono ?_
    rintro e w1 ⟨N, rfl, _, _, hb1⟩
    go_wp2
    go_ret2
    exact ⟨rfl, hb1⟩
  · have hok := Any.strconv_Atoi_range_var Tryz.laysC172 s hs h tp2 p2 w hv2
    have hr : numR s.data.toList = (0, false) := numR_bad (fun u hu e => by
      have := atoi_dec u hu
      rw [e, h] at this; cases this)
    rw [hr]
    have HOK := Lib.hid hok
    clear hr h hok hv1 hv2 ht
    go_enter Tryz.func60, Tryz.ntmps60
    go_wp2_with fail
    refine HOK.out.mono ?_
    rintro e w1 ⟨N, rfl, _, _, hb1⟩
    go_wp2
    go_ret2
    exact ⟨rfl, hb1⟩
end Go.Proofs.YtbhnjnoblkfckabGreatDoor

-- from XHtI
/- Walks: whether other fields are ok, and the text ahead of a body, by the program. -/
namespace Go.Proofs.YtbhnjnoblkfckabGreatDoor
open Go.RowKit

set_option maxRecDepth 100000 in
set_option maxHeartbeats 1600000 in
theorem impl_others (v : Value) (fs : List Fd) (w : World) (hF : FRow w v fs) (hok : FOk fs 281474976710656) (hcls : Cls w) :
    Calls Tryz.prog 81 #[v] w fun e w' => e = .returned (.bool (decide (fs.length ≤ 6) && fldsB fs)) ∧ Below w.heap.size w w' := by
  obtain ⟨a, c, rfl, h1, h2, h3⟩ := hF
  unfold maxLen at h2
  have H3 := Lib.hid h3; clear h3
  have HOk := Lib.hid hok; clear hok
  have HCl : Hid (∀ W, Below w.heap.size w W → Cls W) := Lib.hid fun W hW => hcls.below hW (Nat.le_refl _)
  clear hcls
  by_cases h6 : fs.length ≤ 6
  · have hdef : (decide (fs.length ≤ 6) && fldsB fs) = fldsB fs := by rw [decide_eq_true h6]; rfl
    rw [hdef]; clear hdef
    have hdef : fldsB fs = fldsB fs := rfl
    generalize hR : fldsB fs = R at hdef ⊢
    have HR := Lib.hid hR
    clear hR hdef
    go_enter Tryz.func81, Tryz.ntmps81
    go_wp2_with fail
    go_loopw [10] (fun i wr => ∃ k : Nat, k ≤ fs.length ∧ i = .int .i64 k ∧ fldsB (fs.take k) = true ∧ Below w.heap.size w wr) (fun i _ => fs.length - (intOf i).toNat)
    case atStart => exact ⟨0, Nat.zero_le _, rfl, rfl, Below.refl _ _⟩
    case round =>
      obtain ⟨k, hk, rfl, hall, hbr⟩ := hrel
      by_cases hlt : k < fs.length
      · obtain ⟨b1, o1, rfl, hb1, c1, c2⟩ := H3.out k fs[k] (List.getElem?_eq_getElem hlt)
        have k1 := (hbr.cell (p := ⟨b1, o1 + k * 2, none⟩) hb1).trans c1
        have k2 := (hbr.cell (p := ⟨b1, o1 + k * 2 + 1, none⟩) hb1).trans c2
        have hmem : fs[k] ∈ fs := List.getElem_mem hlt
        have hok := HOk.out fs[k] hmem
        have hsn : fs.take (k + 1) = fs.take k ++ [fs[k]] := by rw [List.take_add_one, List.getElem?_eq_getElem hlt]; rfl
        have HSn := Lib.hid hsn; clear hsn
        clear c1 c2
        generalize fs[k] = f at *
        have HMem := Lib.hid hmem; clear hmem
        obtain ⟨nm, vl⟩ := f
        dsimp only at k1 k2 hok
        have hF := fun W hW => impl_ok nm vl W (by unfold maxLen; omega) (by unfold maxLen; omega) hW
        have hOwn := fun W => impl_own nm W
        have HA := Lib.hid hall; clear hall
        have hwr : w.heap.size ≤ wr.heap.size := hbr.size
        have hbA := hbr.alloc hwr (.cells #[.string nm, .string vl] 88)
        have q0 : (wr.alloc (.cells #[.string nm, .string vl] 88)).cell? ⟨wr.heap.size, 0, none⟩ = some (.string nm) := by rw [World.cell?_alloc_at _ _ _ _ rfl]; rfl
        have q1 : (wr.alloc (.cells #[.string nm, .string vl] 88)).cell? ⟨wr.heap.size, 1, none⟩ = some (.string vl) := by rw [World.cell?_alloc_at _ _ _ _ rfl]; rfl
        have hsA : (wr.alloc (.cells #[.string nm, .string vl] 88)).heap.size = wr.heap.size + 1 := by simp
        have HQ := Lib.hid (And.intro q0 (And.intro q1 hsA))
        clear q0 q1 hsA
        cases hfd : fdB (nm, vl)
        · have hf : R = false := by rw [← HR.out]; exact flds_at HMem.out (.inl hfd)
          rw [hfd] at hF
          clear hfd hOwn
          subst hf
          go_wp2_with fail
          refine (hF _ (HCl.out _ hbA)).mono ?_
          rintro e w2 ⟨rfl, hb2⟩
          have HB := Lib.hid (hbA.trans (hb2.mono (by have := HQ.out.2.2; omega)))
          clear hbA hb2 hbr
          go_wp2
          go_ret
          exact ⟨rfl, HB.out⟩
        · rw [hfd] at hF
          cases hown : ownB nm.data.toList
          · have hall := flds_snoc HA.out hfd hown
            rw [← HSn.out] at hall
            have HA2 := Lib.hid hall
            rw [hown] at hOwn
            clear hall hfd hown
            go_wp2_with fail
            refine (hF _ (HCl.out _ hbA)).mono ?_
            rintro e w2 ⟨rfl, hb2⟩
            have hbB := hbA.trans (hb2.mono (by have := HQ.out.2.2; omega))
            have r0 := (hb2.cell (p := ⟨wr.heap.size, 0, none⟩) (by have := HQ.out.2.2; simp only; omega)).trans HQ.out.1
            have r1 := (hb2.cell (p := ⟨wr.heap.size, 1, none⟩) (by have := HQ.out.2.2; simp only; omega)).trans HQ.out.2.1
            clear hb2 hbA hbr hF
            go_wp2_with fail
            refine (hOwn _).mono ?_
            rintro e w3 ⟨rfl, rfl⟩
            go_wp2
            go_roundw
            case rel => exact ⟨k + 1, by omega, by go_num, HA2.out, hbB⟩
            case measure => simp [intOf]; omega
          · have hf : R = false := by rw [← HR.out]; exact flds_at HMem.out (.inr hown)
            rw [hown] at hOwn
            clear hfd hown
            subst hf
            go_wp2_with fail
            refine (hF _ (HCl.out _ hbA)).mono ?_
            rintro e w2 ⟨rfl, hb2⟩
            have hbB := hbA.trans (hb2.mono (by have := HQ.out.2.2; omega))
            have r0 := (hb2.cell (p := ⟨wr.heap.size, 0, none⟩) (by have := HQ.out.2.2; simp only; omega)).trans HQ.out.1
            have r1 := (hb2.cell (p := ⟨wr.heap.size, 1, none⟩) (by have := HQ.out.2.2; simp only; omega)).trans HQ.out.2.1
            have HB := Lib.hid hbB
            clear hb2 hbA hbr hF hbB
            go_wp2_with fail
            refine (hOwn _).mono ?_
            rintro e w3 ⟨rfl, rfl⟩
            go_wp2
            go_ret
            exact ⟨rfl, HB.out⟩
      · have hkn : k = fs.length := by omega
        subst hkn
        rw [List.take_of_length_le (Nat.le_refl _)] at hall
        have HF := Lib.hid (HR.out.symm.trans hall)
        clear hall
        go_wp2
        go_ret
        rw [HF.out]
        exact ⟨rfl, hbr⟩
  · have hdef : (decide (fs.length ≤ 6) && fldsB fs) = false := by rw [decide_eq_false h6]; rfl
    rw [hdef]; clear hdef
    go_enter Tryz.func81, Tryz.ntmps81
    go_wp2
    go_ret
    exact ⟨rfl, Below.refl _ _⟩

/-! ### The text ahead of a body -/
theorem join_two (ls : List (List UInt8)) : Lib.join (ls ++ [[], []]) [10] = joinL ls ++ [10] := by
  have key : ∀ r : List (List UInt8), Lib.joinTail [10] (r ++ [[], []]) = 10 :: (joinL r ++ [10]) := by
    intro r
    induction r with
    | nil => rfl
    | cons y r ih =>
      unfold Lib.joinTail at ih ⊢
      simp only [List.cons_append, List.map_cons, List.flatten_cons] at ih ⊢
      rw [ih, joinL_cons]
      simp
  cases ls with
  | nil => rfl
  | cons x r =>
    rw [List.cons_append, Lib.join_cons, key, joinL_cons]
    simp
end Go.Proofs.YtbhnjnoblkfckabGreatDoor

-- from XDrawF
/- Walks: the drawing of fields. -/
namespace Go.Proofs.YtbhnjnoblkfckabGreatDoor
open Go.RowKit

set_option maxHeartbeats 400000 in
theorem value_any (g B m : Nat) (w : World) (hm : m ≤ 900000) (h : RdAt w B g m) :
    Calls Tryz.prog 136 #[.pointer (some ⟨g, 0, none⟩)] w (DrawnStr 40 w B g (m + 1)) := by
  have hg := h.lt
  go_enter Tryz.func136, Tryz.ntmps136
  go_wp2_with fail
  refine (pick_any g 9 B m _ (by omega) (by omega) (h.alloc _)).mono ?_
  rintro e w1 ⟨r, rfl, hr, hd⟩
  obtain ⟨s, hs, hk⟩ := lit_str (K := 40) hd hg (by decide) r (by simp; omega)
  have hr7 : (r : Int) < 9 := by omega
  have hd' := hd.of_alloc
  clear hd
  go_wp2
  go_ret
  exact ⟨s, rfl, hk, hd'⟩

def names6 : Array Value := #[.string ⟨#[97, 99, 99, 101, 112, 116]⟩, .string ⟨#[120, 45, 49]⟩, .string ⟨#[105, 102, 45, 110, 111, 110, 101]⟩, .string ⟨#[99, 111, 111, 107, 105, 101]⟩, .string ⟨#[115, 99, 111, 112, 101]⟩, .string ⟨#[98]⟩]

def DrawnFd (K : Nat) (w : World) (B g m : Nat) (e : Ending) (w' : World) : Prop := ∃ s t : ByteArray, e = .returned (.agg #[.string s, .string t]) ∧ s.size ≤ K ∧ t.size ≤ K ∧ Drawn w w' B g m

theorem drawn_set1 {w0 w : World} {B g m b : Nat} (h : Drawn w0 w B g m) (hgb : g < b) (hB : w0.heap.size ≤ b) (j : Nat) (x : Value) : Drawn w0 (w.setCell ⟨b, j, none⟩ x) B g m := by
  refine ⟨h.1.keep fun k hk => heap_setCell_other w ⟨b, j, none⟩ k _ (by simp; omega), ⟨h.2.os, h.2.tape, h.2.output, by simpa using h.2.size, fun k hk hne => ?_⟩⟩
  exact (heap_setCell_other w ⟨b, j, none⟩ k _ (by simp; omega)).trans (h.2.block k hk hne)
theorem drawn_set2 {w0 w : World} {B g m b : Nat} {x y : Value} (h : Drawn w0 w B g m) (hgb : g < b) (hB : w0.heap.size ≤ b) : Drawn w0 ((w.setCell ⟨b, 0, none⟩ x).setCell ⟨b, 1, none⟩ y) B g m := drawn_set1 (drawn_set1 h hgb hB 0 x) hgb hB 1 y

set_option maxRecDepth 100000 in
set_option maxHeartbeats 1600000 in
theorem odd_any (g : Nat) (q : Int) (B m : Nat) (w : World) (hm : m ≤ 1000000) (hq : q ≤ 1000000) (hq0 : 0 ≤ q) (h : RdAt w B g m) :
    Calls Tryz.prog 49 #[.pointer (some ⟨g, 0, none⟩), .int .i64 q] w fun e w' => ∃ b : Bool, e = .returned (.bool b) ∧ Drawn w w' B g (m + 1) := by
  go_enter Tryz.func49, Tryz.ntmps49
  go_wp2_with fail
  refine (pick_any g q B m _ hm hq h).mono ?_
  rintro e w1 ⟨r, rfl, hr, hd⟩
  go_wp2
  go_ret
  exact ⟨_, rfl, hd⟩

set_option maxRecDepth 100000 in
set_option maxHeartbeats 3200000 in
theorem field_any (g B m : Nat) (q : Int) (w : World) (hm : m ≤ 700000) (hq : q ≤ 1000000) (hq0 : 0 ≤ q) (h : RdAt w B g m) :
    Calls Tryz.prog 102 #[.pointer (some ⟨g, 0, none⟩), .int .i64 q] w (DrawnFd 40 w B g (m + 60)) := by
  have hg := h.lt
  go_enter Tryz.func102, Tryz.ntmps102
  go_wp2_with fail
  obtain ⟨w0, hw0⟩ : ∃ w0, w0 = w.alloc (.cells #[.string ⟨#[]⟩, .string ⟨#[]⟩] 88) := ⟨_, rfl⟩
  have h0 : RdAt w0 B g m := by rw [hw0]; exact h.alloc _
  have hs0 : w.heap.size < w0.heap.size := by rw [hw0]; simp
  rw [← hw0]
  refine wp_region_last (by kernel_rfl) 9 (by kernel_rfl) (by kernel_rfl) (by kernel_rfl)
    (fun u => { tmps := #[.pointer (some ⟨g, 0, none⟩), .int .i64 q, undef, undef, .pointer (some ⟨w.heap.size, 0, none⟩), u 8, u 0, u 1, u 2, u 3, u 4, u 5, u 6, u 7, undef, undef, undef, undef, undef, undef, undef, undef, undef, undef, undef, undef, undef, undef, undef, undef], defers := [] })
    (CAtK w0 B g m 1)
    (RAt [RLit g 6 names6 9, REq (.pointer (some ⟨g, 0, none⟩)), RNum 6, RCell g 40, RStr 40, REq (.pointer (some ⟨g, 0, none⟩)), RStr 40, RPair 40, RVar g w0.heap.size (.string ⟨#[]⟩) (.string ⟨#[]⟩) 88])
    (fun w w' => w.grownBy w' (some g)) (fun _ => undef) ⟨(Drawn.refl h0).drew, h0.lt⟩
    (fun i v w w' _ hR hle => stay_at (g := g) (by exact ⟨stay_lit _ _ _ _, stay_eq _ _, stay_num _ _, stay_cell _ _, stay_str _ _, stay_eq _ _, stay_str _ _, stay_pair _ _, stay_var _ _ _ _ _, trivial⟩) v w w' hR hle) ?_ ?_
  · intro i hi u w1 k hk hC hd
    have hlt := catk_lt hC
    match i, hi with
    | 0, _ =>
      refine wpOp_step rfl (fun K hK => ?_)
      clear hd
      go_simp
      exact hK _ _ ⟨_, rfl, ⟨_, rfl, by omega, heap_alloc_new w1 _⟩, World.grownBy_alloc _ _ _, catk_alloc hC _⟩
    | 1, _ =>
      refine wpOp_step rfl (fun K hK => ?_)
      clear hd
      go_simp
      exact hK _ _ ⟨_, rfl, rfl, World.grownBy.refl _ _, catk_same hC⟩
    | 2, _ =>
      have e1 : u 1 = .pointer (some ⟨g, 0, none⟩) := hd 1 (dep_of (by kernel_rfl))
      refine wpOp_step rfl (fun K hK => ?_)
      clear hd
      go_simp
      refine (pick_lit g 6 6 rfl (by decide) B (m + 1 * k) _ (by omega) (by decide) hC.1.1).mono ?_
      rintro e w2 ⟨r, rfl, hr, -, hd2⟩
      exact hK _ _ ⟨_, by simp [upd, e1], ⟨r, rfl, hr⟩, hd2.2, catk_drawn hC hd2 (by omega)⟩
    | 3, _ =>
      obtain ⟨b, e0, hbg, hb⟩ : RLit g 6 names6 9 (u 0) w1 := hd 0 (dep_of (by kernel_rfl))
      obtain ⟨r, e2, hr⟩ : RNum 6 (u 2) w1 := hd 2 (dep_of (by kernel_rfl))
      obtain ⟨s, hs, hk40⟩ := lit_at (K := 40) hb (by decide) (r := r) hr
      have hr6 : (r : Int) < 6 := by omega
      refine wpOp_step rfl (fun K hK => ?_)
      clear hd
      go_simp
      exact hK _ _ ⟨_, by simp [upd, e0, e2], ⟨b, r, s, rfl, hbg, hs, hk40⟩, World.grownBy.refl _ _, catk_same hC⟩
    | 4, _ =>
      obtain ⟨b, r, s, e3, hbg, hs, hk40⟩ : RCell g 40 (u 3) w1 := hd 3 (dep_of (by kernel_rfl))
      refine wpOp_step rfl (fun K hK => ?_)
      clear hd
      go_simp
      exact hK _ _ ⟨_, by simp [upd, e3], ⟨s, rfl, hk40⟩, World.grownBy.refl _ _, catk_same hC⟩
    | 5, _ =>
      refine wpOp_step rfl (fun K hK => ?_)
      clear hd
      go_simp
      exact hK _ _ ⟨_, rfl, rfl, World.grownBy.refl _ _, catk_same hC⟩
    | 6, _ =>
      have e5 : u 5 = .pointer (some ⟨g, 0, none⟩) := hd 5 (dep_of (by kernel_rfl))
      refine wpOp_step rfl (fun K hK => ?_)
      clear hd
      go_simp
      refine (value_any g B (m + 1 * k) _ (by omega) hC.1.1).mono ?_
      rintro e w2 ⟨s, rfl, hs, hd2⟩
      exact hK _ _ ⟨_, by simp [upd, e5], ⟨s, rfl, hs⟩, hd2.2, catk_drawn hC hd2 (by omega)⟩
    | 7, _ =>
      obtain ⟨s, e4, hs⟩ : RStr 40 (u 4) w1 := hd 4 (dep_of (by kernel_rfl))
      obtain ⟨t, e6, ht⟩ : RStr 40 (u 6) w1 := hd 6 (dep_of (by kernel_rfl))
      refine wpOp_step rfl (fun K hK => ?_)
      clear hd
      go_simp
      exact hK _ _ ⟨_, by simp [upd, e4, e6], ⟨s, t, rfl, hs, ht⟩, World.grownBy.refl _ _, catk_same hC⟩
    | 8, _ =>
      refine wpOp_step rfl (fun K hK => ?_)
      clear hd
      go_simp
      exact hK _ _ ⟨_, rfl, ⟨_, rfl, hlt, by have := hC.1.2.size; omega, heap_alloc_new w1 _⟩, World.grownBy_alloc _ _ _, catk_alloc hC _⟩
  · intro u w1 k hk hC hd
    obtain ⟨s, t, e7, hs, ht⟩ : RPair 40 (u 7) w1 := hd 7 (by decide)
    obtain ⟨b, e8, hgb, hB, hb⟩ : RVar g w0.heap.size (.string ⟨#[]⟩) (.string ⟨#[]⟩) 88 (u 8) w1 := hd 8 (by decide)
    have q0 : w1.cell? ⟨b, 0, none⟩ = some (.string ⟨#[]⟩) := by simp [World.cell?, hb]
    have q1 : w1.cell? ⟨b, 1, none⟩ = some (.string ⟨#[]⟩) := by simp [World.cell?, hb]
    have q2 : w1.frozen? ⟨b, 0, none⟩ = false := by simp [World.frozen?, hb]
    have q3 : w1.frozen? ⟨b, 1, none⟩ = false := by simp [World.frozen?, hb]
    refine wpOp_step rfl (fun K hK => ?_)
    clear hd
    go_simp
    refine hK _ _ ?_
    clear hK K
    have hb2 : ((w1.setCell ⟨b, 0, none⟩ (.string s)).setCell ⟨b, 1, none⟩ (.string t)).heap[b]? = some (.cells #[.string s, .string t] 88 (0, 0)) := by
      have h1 := heap_setCell_same w1 b 0 _ _ (.string s) hb
      have h2 := heap_setCell_same _ b 1 _ _ (.string t) h1
      simpa using h2
    have hD1 : Drawn w0 ((w1.setCell ⟨b, 0, none⟩ (.string s)).setCell ⟨b, 1, none⟩ (.string t)) B g (m + 10) := drawn_set2 (hC.1.mono (by omega)) hgb hB
    generalize ((w1.setCell ⟨b, 0, none⟩ (.string s)).setCell ⟨b, 1, none⟩ (.string t)) = W1 at hb2 hD1 ⊢
    clear q0 q1 q2 q3 e7 e8 hb hC hk
    have hres : ∀ W M, Drawn w0 W B g M → W.heap[w.heap.size]? = some (.cells #[.string ⟨#[]⟩, .string ⟨#[]⟩] 88 (0, 0)) := fun W M hW => by
      refine block_keep (by omega) ?_ hW.2
      rw [hw0]; exact heap_alloc_new w _
    have HR := Lib.hid hres
    have hfin : ∀ W M x y, Drawn w0 W B g M → Drawn w ((W.setCell ⟨w.heap.size, 0, none⟩ x).setCell ⟨w.heap.size, 1, none⟩ y) B g M := fun W M x y hW => by
      have hW' : Drawn w W B g M := by rw [hw0] at hW; exact hW.of_alloc
      exact drawn_set2 hW' hg (Nat.le_refl _)
    have HF := Lib.hid hfin
    clear hres hfin
    have hbne : b ≠ g := by omega
    have hne : b ≠ w.heap.size := by omega
    -- the end, whatever the field
    have hend : ∀ (W : World) (M : Nat) (s t : ByteArray), Drawn w0 W B g M → M ≤ m + 60 → W.heap[b]? = some (.cells #[.string s, .string t] 88 (0, 0)) → s.size ≤ 40 → t.size ≤ 40 →
        W.cell? ⟨b, 0, none⟩ = some (.string s) ∧ W.cell? ⟨b, 1, none⟩ = some (.string t) ∧ W.frozen? ⟨b, 0, none⟩ = false ∧ W.frozen? ⟨b, 1, none⟩ = false ∧
        W.cell? ⟨w.heap.size, 0, none⟩ = some (.string ⟨#[]⟩) ∧ W.cell? ⟨w.heap.size, 1, none⟩ = some (.string ⟨#[]⟩) ∧ W.frozen? ⟨w.heap.size, 0, none⟩ = false ∧ W.frozen? ⟨w.heap.size, 1, none⟩ = false ∧
        ((W.setCell ⟨w.heap.size, 0, none⟩ (.string s)).setCell ⟨w.heap.size, 1, none⟩ (.string t)).cell? ⟨w.heap.size, 0, none⟩ = some (.string s) ∧
        ((W.setCell ⟨w.heap.size, 0, none⟩ (.string s)).setCell ⟨w.heap.size, 1, none⟩ (.string t)).cell? ⟨w.heap.size, 1, none⟩ = some (.string t) ∧
        Hid (DrawnFd 40 w B g (m + 60) (.returned (.agg #[.string s, .string t])) ((W.setCell ⟨w.heap.size, 0, none⟩ (.string s)).setCell ⟨w.heap.size, 1, none⟩ (.string t))) := fun W M s t hW hM hb hs ht => by
      have r0 := HR.out W M hW
      have h1 := heap_setCell_same W w.heap.size 0 _ _ (.string s) r0
      have h2 := heap_setCell_same _ w.heap.size 1 _ _ (.string t) h1
      refine ⟨by simp [World.cell?, hb], by simp [World.cell?, hb], by simp [World.frozen?, hb], by simp [World.frozen?, hb], by simp [World.cell?, r0], by simp [World.cell?, r0], by simp [World.frozen?, r0], by simp [World.frozen?, r0], by simp [World.cell?, h2], by simp [World.cell?, h2], Lib.hid ⟨s, t, rfl, hs, ht, (HF.out W M _ _ hW).mono hM⟩⟩
    have HE := Lib.hid hend
    clear hend HR HF
    have hr1 := hD1.1
    go_wp2_with fail
    refine (odd_any g q B (m + 10) _ (by omega) hq hq0 hr1).mono ?_
    rintro e W2 ⟨od, rfl, hd2⟩
    have hD2 := hD1.trans hd2
    have hb3 := block_keep hbne hb2 hd2.2
    cases od
    · obtain ⟨k0, k1, k2, k3, k4, k5, k6, k7, k8, k9, HX⟩ := HE.out W2 _ s t hD2 (by omega) hb3 hs ht
      clear hb2 hb3 hD1 hD2 hd2 hr1
      go_wp2
      exact bodyPost_ret (v := .agg #[.string s, .string t]) (by simp [results, Tryz.results102, go_sem, k8, k9]) rfl HX.out
    · have hr2 := hD2.1
      go_wp2_with fail
      refine (pick_lit g 2 2 rfl (by decide) B (m + 10 + 1) _ (by omega) (by decide) hr2).mono ?_
      rintro e W3 ⟨r3, rfl, hr3, -, hd3⟩
      have hD3 := hD2.trans hd3
      have hb4 := block_keep hbne hb3 hd3.2
      have hr3' : r3 = 0 ∨ r3 = 1 := by omega
      have hr4 := hD3.1
      clear hb2 hb3 hD1 hD2 hd2 hr1 hd3 hr2 hr3
      rcases hr3' with rfl | rfl
      · go_wp2_with fail
        refine (text_any g B (m + 10 + 1 + 1) _ (by omega) hr4).mono ?_
        rintro e W4 ⟨x, rfl, hx, hd4⟩
        have hD4 := hD3.trans hd4
        have hb5 := block_keep hbne hb4 hd4.2
        have q0 : W4.cell? ⟨b, 0, none⟩ = some (.string s) := by simp [World.cell?, hb5]
        have q2 : W4.frozen? ⟨b, 0, none⟩ = false := by simp [World.frozen?, hb5]
        have hb6 : (W4.setCell ⟨b, 0, none⟩ (.string x)).heap[b]? = some (.cells #[.string x, .string t] 88 (0, 0)) := by simpa using heap_setCell_same W4 b 0 _ _ (.string x) hb5
        obtain ⟨k0, k1, k2, k3, k4, k5, k6, k7, k8, k9, HX⟩ := HE.out (W4.setCell ⟨b, 0, none⟩ (.string x)) _ x t (drawn_set1 hD4 hgb hB 0 _) (by omega) hb6 (by omega) ht
        clear hb4 hb5 hb6 hD3 hD4 hd4 hr4
        go_wp2
        exact bodyPost_ret (v := .agg #[.string x, .string t]) (by simp [results, Tryz.results102, go_sem, k8, k9]) rfl HX.out
      · go_wp2_with fail
        refine (pick_lit g 6 6 rfl (by decide) B (m + 10 + 1 + 1) _ (by omega) (by decide) (hr4.alloc _)).mono ?_
        rintro e W4 ⟨r5, rfl, hr5, hr5', hd4⟩
        obtain ⟨x, hx, hx40⟩ := lit_str (K := 40) hd4 hr4.lt (by decide) r5 (by simp; omega)
        have hD4 := hD3.trans hd4.of_alloc
        have hb5 := block_keep hbne hb4 hd4.of_alloc.2
        have q0 : W4.cell? ⟨b, 1, none⟩ = some (.string t) := by simp [World.cell?, hb5]
        have q2 : W4.frozen? ⟨b, 1, none⟩ = false := by simp [World.frozen?, hb5]
        have hb6 : (W4.setCell ⟨b, 1, none⟩ (.string x)).heap[b]? = some (.cells #[.string s, .string x] 88 (0, 0)) := by simpa using heap_setCell_same W4 b 1 _ _ (.string x) hb5
        obtain ⟨k0, k1, k2, k3, k4, k5, k6, k7, k8, k9, HX⟩ := HE.out (W4.setCell ⟨b, 1, none⟩ (.string x)) _ s x (drawn_set1 hD4 hgb hB 1 _) (by omega) hb6 hs hx40
        clear hb4 hb5 hb6 hD3 hD4 hd4 hr4
        go_wp2
        exact bodyPost_ret (v := .agg #[.string s, .string x]) (by simp [results, Tryz.results102, go_sem, k8, k9]) rfl HX.out
end Go.Proofs.YtbhnjnoblkfckabGreatDoor

-- from XDrawL
/- Walks: the drawing of lists of fields. -/
namespace Go.Proofs.YtbhnjnoblkfckabGreatDoor
open Go.RowKit

def fcells (fs : List Fd) : List Value := fs.flatMap fun f => [.string f.1, .string f.2]
theorem fcells_len (fs : List Fd) : (fcells fs).length = fs.length * 2 := by
  induction fs with
  | nil => rfl
  | cons f fs ih => simp only [fcells, List.flatMap_cons, List.length_append, List.length_cons, List.length_nil] at ih ⊢; omega
theorem fcells_app (fs : List Fd) (f : Fd) : fcells (fs ++ [f]) = fcells fs ++ [.string f.1, .string f.2] := by simp [fcells]
theorem fcells_at : ∀ {fs : List Fd} {j : Nat} {f : Fd}, fs[j]? = some f → (fcells fs)[j * 2]? = some (.string f.1) ∧ (fcells fs)[j * 2 + 1]? = some (.string f.2)
  | [], j, f, h => by simp at h
  | a :: fs, 0, f, h => by
    have : a = f := by simpa using h
    subst this
    simp [fcells]
  | a :: fs, j + 1, f, h => by
    have h' : fs[j]? = some f := by simpa using h
    have ih := fcells_at h'
    have e : fcells (a :: fs) = [.string a.1, .string a.2] ++ fcells fs := rfl
    rw [e, List.getElem?_append_right (by simp; omega), List.getElem?_append_right (by simp; omega)]
    simpa [show (j + 1) * 2 - 2 = j * 2 from by omega, show (j + 1) * 2 + 1 - 2 = j * 2 + 1 from by omega] using ih

/-- A list of fields, in no block of the reader's. -/
def FRowA (g : Nat) (w : World) (v : Value) (fs : List Fd) : Prop :=
  ∃ a c, v = .slice a fs.length c ∧ fs.length ≤ c ∧ c ≤ maxLen ∧ ∀ j f, fs[j]? = some f → ∃ b o, a = some ⟨b, o, none⟩ ∧ b < w.heap.size ∧ b ≠ g ∧ w.cell? ⟨b, o + j * 2, none⟩ = some (.string f.1) ∧ w.cell? ⟨b, o + j * 2 + 1, none⟩ = some (.string f.2)
theorem FRowA.row {g : Nat} {w : World} {v : Value} {fs : List Fd} (h : FRowA g w v fs) : FRow w v fs := by
  obtain ⟨a, c, rfl, h1, h2, h3⟩ := h
  refine ⟨a, c, rfl, h1, h2, fun j f hj => ?_⟩
  obtain ⟨b, o, rfl, hb, _, c1, c2⟩ := h3 j f hj
  exact ⟨b, o, rfl, hb, c1, c2⟩
theorem FRowA.keep {g : Nat} {w w' : World} {v : Value} {fs : List Fd} (h : FRowA g w v fs) (hg : w.grownBy w' (some g)) : FRowA g w' v fs := by
  obtain ⟨a, c, rfl, h1, h2, h3⟩ := h
  refine ⟨a, c, rfl, h1, h2, fun j f hj => ?_⟩
  obtain ⟨b, o, rfl, hb, hne, c1, c2⟩ := h3 j f hj
  exact ⟨b, o, rfl, Nat.lt_of_lt_of_le hb hg.size, hne, hg.cell c1 (fun e => hne (by injection e)), hg.cell c2 (fun e => hne (by injection e))⟩
theorem frow_of_own {w : World} {B g : Nat} {T : TypeId} {v : Value} {fs : List Fd} (h : w.ownsRow B T 2 v fs.length (fcells fs)) (hg : g < B) : FRowA g w v fs := by
  rcases h.2 with ⟨rfl, h0⟩ | ⟨b, cap, cur, rfl, hb, hh, hn, hm, _, _⟩
  · have : fs = [] := List.eq_nil_of_length_eq_zero h0
    subst this
    exact ⟨none, 0, rfl, Nat.le_refl _, Nat.zero_le _, fun j f hj => by simp at hj⟩
  · refine ⟨_, cap, rfl, hn, hm, fun j f hj => ⟨b, 0, rfl, (Array.getElem?_eq_some_iff.1 hh).1, by omega, ?_, ?_⟩⟩
    · have := h.cells (g := b) rfl _ _ (fcells_at hj).1
      have hadd : ∀ k, (⟨b, 0, none⟩ : Addr).add k = ⟨b, k, none⟩ := fun k => by unfold Addr.add; split <;> simp_all
      rw [hadd] at this
      rw [Nat.zero_add]; exact this
    · have := h.cells (g := b) rfl _ _ (fcells_at hj).2
      have hadd : ∀ k, (⟨b, 0, none⟩ : Addr).add k = ⟨b, k, none⟩ := fun k => by unfold Addr.add; split <;> simp_all
      rw [hadd] at this
      rw [Nat.zero_add]; exact this

theorem drawn_grown {w0 w w' : World} {B g m : Nat} {row : Option Nat} (h : Drawn w0 w B g m) (hg : w.grownBy w' row) (hlt : g < w0.heap.size) (hrow : ∀ r, row = some r → w0.heap.size ≤ r) : Drawn w0 w' B g m := by
  have hne : ∀ k, k < w0.heap.size → some k ≠ row := fun k hk e => by have := hrow k e.symm; omega
  refine ⟨h.1.keep fun k hk => hg.block k (by have := h.1.lt; omega) (hne k (by omega)), ⟨hg.os.trans h.2.os, hg.tape.trans h.2.tape, hg.output.trans h.2.output, Nat.le_trans h.2.size hg.size, fun k hk hn => ?_⟩⟩
  exact (hg.block k (Nat.lt_of_lt_of_le hk h.2.size) (hne k hk)).trans (h.2.block k hk hn)

theorem Tryz.infoFd : (Tryz.prog.info? 88).map (fun i => (i.zero, i.size, i.bytes)) = some (some (.agg #[.string ⟨#[]⟩, .string ⟨#[]⟩]), 2, 32) := by kernel_rfl

theorem own_drawn {w w' : World} {B g n size : Nat} {e : TypeId} {v : Value} {xs : List Value} (h : w.ownsRow B e size v n xs) (hgB : g < B) (hg : w.grownBy w' (some g)) : w'.ownsRow B e size v n xs := by
  refine h.kept hg ?_
  cases hv : v.ownBlock with
  | none => exact .inl rfl
  | some b => exact .inr fun e => by have := (h.lt b hv).1; cases e; omega

theorem pair_new (w : World) (s t : ByteArray) (T : TypeId) : ∀ (j : Nat) u, [Value.string s, .string t][j]? = some u → (w.alloc (.cells #[.string s, .string t] T)).cell? ((⟨w.heap.size, 0, none⟩ : Addr).add j) = some u := by
  intro j u hu
  match j, hu with
  | 0, hu => exact (World.cell?_alloc_at _ _ _ _ rfl).trans (by simpa using hu)
  | 1, hu => exact (World.cell?_alloc_at _ _ _ _ rfl).trans (by simpa using hu)
  | j + 2, hu => simp at hu

end Go.Proofs.YtbhnjnoblkfckabGreatDoor

-- from XHedF
/- Walks: a request's lists of fields, by the specification. -/
namespace Go.Proofs.YtbhnjnoblkfckabGreatDoor
open Go.RowKit

/-- 'append(out, x)' of one element of two cells. -/
theorem wpList_append2 {P : Program} (w : World) {ops : Array Oper} {rest : List Oper} {o : Oper} {a : Act} {Q : Exit → Act → World → Prop} (hgd : o.guard = none) (s x : Operand) (t : TypeId)
    (ho : o.op = .call { callee := .builtin .append, args := #[s, x], argTypes := #[t, t] })
    (base : Nat) (e : TypeId) (i : TypeInfo) (z : Value) (bytes : Nat) (ht : P.underlying t = some (.slice e)) (hi : P.info? e = some i) (hz : i.zero = some z)
    (hsize : i.size = 2) (hby : i.bytes = bytes) (hzs : z.cells.size = 2)
    (v : Value) (n : Nat) (xs : List Value) (hs : a.eval s = v) (hown : w.ownsRow base e 2 v n xs) (u1 u2 : ByteArray) (t' : TypeId) (H : Nat) (hH : w.heap.size = H)
    (hx : a.eval x = .slice (some ⟨H, 0, none⟩) 1 1)
    (h63 : n + 1 ≤ maxLen) (hbytes : (n + 1) * bytes ≤ 140737488355328) (hbase : base ≤ w.heap.size)
    (h : ∀ v' w', w'.ownsRow base e 2 v' (n + 1) (xs ++ [.string u1, .string u2]) → Below base w w' → w.heap.size < w'.heap.size → wpList P ops Q rest (a.put o.dst v') w') : wpList P ops Q (o :: rest) a (w.alloc (.cells #[.string u1, .string u2] t')) := by
  subst hH
  refine wpList_append_own (w.alloc (.cells #[.string u1, .string u2] t')) hgd s x t ho base e i z 2 bytes ht hi hz hsize hby hzs (by decide) v n xs hs (hown.alloc _) ⟨w.heap.size, 0, none⟩ 1 1 [.string u1, .string u2] hx rfl (pair_new w u1 u2 t') ?_ h63 hbytes (by simp; omega) ?_
  · intro y hy; simp at hy; rcases hy with rfl | rfl <;> rfl
  · intro v' w' ho' hg _
    refine h v' w' ho' ?_ ?_
    · refine ((Below.refl base w).alloc hbase _).grown hg (by simp; omega) ?_
      intro k hk
      exact (hown.lt k hk).1
    · have := hg.size; simp at this; omega

theorem frow_own {w : World} {B : Nat} {T : TypeId} {v : Value} {fs : List Fd} (hB : 0 < B) (h : w.ownsRow B T 2 v fs.length (fcells fs)) : FRow w v fs := (frow_of_own (g := 0) h hB).row

theorem others_snoc (fs : List Fd) (f : Fd) : othersL (fs ++ [f]) = if ownB f.1.data.toList = true then othersL fs else othersL fs ++ [f] := by
  unfold othersL
  rw [List.filter_append]
  by_cases h : ownB f.1.data.toList = true
  · simp [h]
  · simp [h]
theorem others_len (fs : List Fd) : (othersL fs).length ≤ fs.length := List.length_filter_le ..

end Go.Proofs.YtbhnjnoblkfckabGreatDoor

